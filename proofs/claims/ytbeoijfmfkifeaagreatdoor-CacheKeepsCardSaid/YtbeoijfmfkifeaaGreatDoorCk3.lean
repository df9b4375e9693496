/- The texts that the proofs of these statements reach, in their order, as few files. -/
import Derived.Test.YtbeoijfmfkifeaaGreatDoorCk2
set_option linter.unusedVariables false
set_option linter.unusedSimpArgs false
set_option maxRecDepth 100000
namespace Go.Proofs.YtbeoijfmfkifeaaGreatDoor.Sx
open Go.RowKit
def rkO (l:List SO) (anc:List (List Nat)) (i:Nat):Nat:=2 * ((List.range l.length).filter fun j => goB (zaq l j) && zb9 anc i j).length + (if goB (zaq l i)=true then 1 else 0)
def zan (l:List SO):List Nat:=(List.range l.length).filter fun j => goB (zaq l j)
def crsOk (l:List SO) (deps anc:List (List Nat)):Bool :=
 (List.range l.length).all (fun i => (deps.getD i []).all (fun e => decide (e < i)) && (anc.getD i []).all fun j => (deps.getD i []).contains j || (deps.getD i []).any fun e => (anc.getD e []).contains j) &&
 (List.range l.length).all (fun i => zag l i == none || (List.range l.length).all fun j => i == j || zag l j != zag l i) &&
 (List.range l.length).all (fun i => (zaq l i).looks.all fun t => (List.range l.length).all fun j => j == i || zag l j != some t || (anc.getD i []).contains j || (anc.getD j []).contains i) &&
 (List.range l.length).all (fun i => goB (zaq l i) || zb7 (zaq l i)) &&
 (List.range l.length).all (fun i => (List.range l.length).all fun j => !zb9 anc i j || decide (rkO l anc j ≤ rkO l anc i)) &&
 (List.range l.length).all (fun c => !goB (zaq l c) || (List.range l.length).all fun j => j == c || decide (rkO l anc j < rkO l anc c) || zb9 anc j c) &&
 (List.range (zan l).length).all (fun k => rkO l anc ((zan l).getD k 0) == 2 * k + 1) &&
 (List.range l.length).all (fun i => decide (rkO l anc i ≤ 2 * (zan l).length) && (!goB (zaq l i) || i == (zan l).getD (rkO l anc i / 2) 0))
def lvL (l:List SO) (anc:List (List Nat)) (k:Nat):List SO:=zbP l.length (fun i => rkO l anc i == 2 * k) l
def zaL (P:Program) [Tabs P]:List (List SO × List AV × List AV) → List OB → Prop
 | [],_ => True
 | e :: r,o => wpR P e.1 o e.2.1 (fun _ x => x=e.2.2) ∧ zaL P r o
def wpT (P:Program) [Tabs P]:List (List SO × SO) → List (List SO × List AV × List AV) → List SO → List OB → List AV → (List OB → List AV → Prop) → Prop
 | [],_,last,o,t,K => wpR P last o t K
 | (L,c) :: r,hist,last,o,t,K => wpR P L o t fun _ u => wpR P [c] o u fun o' t' => zaL P ((L,t,u) :: hist) o' ∧ wpT P r ((L,t,u) :: hist) last o' t' K
def zay (l:List SO) (anc:List (List Nat)):Nat → Nat → List (List SO × SO)
 | 0,_ => []
 | r + 1,k => (lvL l anc k,zaq l ((zan l).getD k 0)) :: zay l anc r (k + 1)
section
variable {P:Program} [Tabs P]
theorem zcT:∀ {h:List (List SO × List AV × List AV)} {o:List OB},zaL P h o → ∀ e ∈ h,wpR P e.1 o e.2.1 (fun _ x => x=e.2.2)
 | [],o,_,e,he => by cases he
 | x :: h,o,hr,e,he => by
  rcases List.mem_cons.1 he with rfl | he
  ·exact hr.1
  ·exact zcT hr.2 e he
theorem zbS:∀ (pre:List SO) (objs:List OB) (tm:List AV) (F:List OB → List AV → Prop),(∀ so ∈ pre,zb7 so=true) → wpR P pre objs tm F → ∃ u,F objs u ∧ wpR P pre objs tm (fun _ x => x=u)
 | [],objs,tm,F,_,h => ⟨tm,h,rfl⟩
 | so :: pre,objs,tm,F,hc,h => by
  obtain ⟨d,op,rfl,c1,c2⟩:=zbN (hc so (by simp))
  simp only [wpR] at h ⊢
  obtain ⟨v,h1,h2⟩:=za6 c1 c2 h
  obtain ⟨u,k1,k2⟩:=zbS pre objs _ F (fun so hs => hc so (List.mem_cons_of_mem _ hs)) h2
  exact ⟨u,k1,h1 _ k2⟩
end
section
variable {P:Program} [Tabs P] {C:Cx} [On P C] {K:zas}
theorem crs_ok (id:Nat) (ops:Array Oper) (l:List SO) (hl:ops.toList.mapM (trO P ops.toList)=some l) (hok:crsOk l (ops.toList.map zah) (za5 (ops.toList.map zah))=true) (hm:P.follows .mixedOrders=true) {objs:List OB} {tm:List AV}
  (h:wpT P (zay l (za5 (ops.toList.map zah)) (zan l).length 0) [] (lvL l (za5 (ops.toList.map zah)) (zan l).length) objs tm fun o t => K .normal o t):∀ a w,Rel C objs tm a w → (Code.region id ops true).wp P (zcx C K) a w:=by
 have hnl:ops.size=l.length:=by
  have:=(zbc _ _ _ hl).1
  simpa using this
 unfold crsOk at hok
 simp only [Bool.and_eq_true] at hok
 obtain ⟨⟨⟨⟨⟨⟨⟨hd1,hd2⟩,hd3⟩,hkd⟩,hrk⟩,hcl⟩,hci⟩,hbd⟩:=hok
 have hpre:zaV l (ops.toList.map zah) (za5 (ops.toList.map zah)) 0=true:=by
  unfold zaV
  simp only [Bool.and_eq_true]
  exact ⟨⟨⟨⟨⟨⟨by simp,hd1⟩,by simp⟩,by simp⟩,by simp⟩,by simp⟩,by simp [zcP]⟩
 have hap0:∀ an,zaS l an 0=[]:=fun an => by simp [zaS]
 simp only [Bool.and_eq_true,decide_eq_true_eq,List.all_eq_true,List.mem_range,Bool.or_eq_true,bne_iff_ne,ne_eq,beq_iff_eq,List.any_eq_true,List.contains_iff_mem,Bool.not_eq_true'] at hd1 hd2 hd3 hkd hrk hcl hci hbd
 have hlen:ops.toList.length=l.length:=by simpa using hnl
 have hdep:∀ i,i < ops.size → (∀ e ∈ (ops.toList.map zah).getD i [],e < i) ∧ ∀ j ∈ (za5 (ops.toList.map zah)).getD i [],j ∈ (ops.toList.map zah).getD i [] ∨ ∃ e ∈ (ops.toList.map zah).getD i [],j ∈ (za5 (ops.toList.map zah)).getD e []:=fun i hi => hd1 i (by omega)
 have halt:=zgH (ops.toList.map zah) (za5 (ops.toList.map zah)) ops.size hdep
 have hfin:=zbF (P:=P) (C:=C) (K:=K) id ops l l hl (.inl rfl) 0 hpre hm (objs:=objs) (tm:=tm)
 generalize za5 (ops.toList.map zah)=anc at *
 clear hd1 hdep hpre
 have ancIff:∀ i j,zb9 anc i j=true ↔ j ∈ anc.getD i []:=fun i j => by unfold zb9; exact List.contains_iff_mem
 have hdis:∀ a b,a < l.length → b < l.length → a ≠ b → zag l a ≠ none → zag l a ≠ zag l b:=fun a b ha hb hab hn e => by
  rcases hd2 a ha with h0 | h0
  ·exact hn h0
  ·rcases h0 b hb with h1 | h1
   ·exact hab h1
   ·exact h1 e.symm
 have only:∀ s j j',j < l.length → j' < l.length → zag l j=some s → zag l j'=some s → j'=j:=by
  intro s j j' h1 h2 h3 h4
  by_cases e:j'=j
  ·exact e
  ·exact absurd (h4.trans h3.symm) (hdis j' j h2 h1 e (by rw [h4]; simp))
 have hrk':∀ i j,i < l.length → j < l.length → j ∈ anc.getD i [] → rkO l anc j ≤ rkO l anc i:=by
  intro i j hi hj hm
  rcases hrk i hi j hj with h0 | h0
  ·rw [(ancIff i j).2 hm] at h0; cases h0
  ·exact h0
 have evenOdd:∀ i,rkO l anc i % 2=if goB (zaq l i)=true then 1 else 0:=by
  intro i; unfold rkO; split <;> omega
 have calmOf:∀ i,i < l.length → ∀ j,rkO l anc i=2 * j → ∃ d op,zaq l i=⟨some d,op,none⟩ ∧ op.calm=true ∧ op.isCall=false:=by
  intro i hi j hj
  have:=evenOdd i
  rw [hj] at this
  have hn:¬ goB (zaq l i)=true:=fun h => by rw [if_pos h] at this; omega
  rcases hkd i hi with h0 | h0
  ·exact absurd h0 hn
  ·exact zbN h0
 have lvCalm:∀ k,∀ so ∈ lvL l anc k,zb7 so=true:=by
  intro k so hs
  obtain ⟨i,hi,hp,rfl⟩:=zaX.1 hs
  have hp:rkO l anc i=2 * k:=by simpa using hp
  have:=evenOdd i
  have hn:¬ goB (zaq l i)=true:=fun h => by rw [if_pos h] at this; omega
  rcases hkd i hi with h0 | h0
  ·exact absurd h0 hn
  ·exact h0
 have lvNd:∀ k,((lvL l anc k).map (·.dst)).Nodup:=by
  intro k
  unfold lvL zbP
  rw [List.map_map]
  have h0:((List.range l.length).filter (fun i => rkO l anc i == 2 * k)).Nodup:=List.nodup_range.sublist List.filter_sublist
  refine List.Pairwise.map _ ?_ (List.Pairwise.and_mem.1 h0)
  rintro a b ⟨ha,hb,hab⟩ e
  rw [List.mem_filter,List.mem_range] at ha hb
  obtain ⟨d,op,e1,_⟩:=calmOf a ha.1 k (by simpa using ha.2)
  refine hdis a b ha.1 hb.1 hab ?_ ?_
  ·rw [zal ha.1,e1]; simp
  ·rw [zal ha.1,zal hb.1]; exact e
 generalize hmm:(zan l).length=m at *
 have cMem:∀ k,k < m → (zan l).getD k 0 < l.length ∧ goB (zaq l ((zan l).getD k 0))=true:=by
  intro k hk
  have h0:(zan l).getD k 0 ∈ zan l:=by
   rw [List.getD_eq_getElem?_getD,List.getElem?_eq_getElem (by omega)]
   exact List.getElem_mem _
  unfold zan at h0 ⊢
  rw [List.mem_filter,List.mem_range] at h0
  exact h0
 let ci:Nat → Nat:=fun k => (zan l).getD k 0
 have ciRk:∀ k,k < m → rkO l anc (ci k)=2 * k + 1:=fun k hk => hci k hk
 have callIs:∀ i,i < l.length → goB (zaq l i)=true → ∃ k,k < m ∧ i=ci k:=by
  intro i hi hc
  have h1:=(hbd i hi).1
  have h2:=evenOdd i
  rw [if_pos hc] at h2
  rcases (hbd i hi).2 with h0 | h0
  ·rw [hc] at h0; cases h0
  ·exact ⟨rkO l anc i / 2,by omega,h0⟩
 let Ent (e:List SO × List AV × List AV) (u:List AV) (j:Nat):Prop:=e.1=lvL l anc j ∧ e.2.1.length=tm.length ∧ e.2.2.length=tm.length ∧ (∀ s i,i < l.length → zag l i=some s → rkO l anc i < 2 * j → e.2.1[s]? = u[s]?) ∧ (∀ s,(∀ i,i < l.length → rkO l anc i < 2 * j → zag l i ≠ some s) → e.2.1[s]? = tm[s]?) ∧ ∀ s i,i < l.length → zag l i=some s → rkO l anc i=2 * j → e.2.2[s]? = u[s]?
 let St (k:Nat) (hist:List (List SO × List AV × List AV)) (u:List AV):Prop:=u.length=tm.length ∧ (∀ j,j ≤ k → ∃ e ∈ hist,Ent e u j) ∧ ∀ s,(∀ i,i < l.length → rkO l anc i ≤ 2 * k → zag l i ≠ some s) → u[s]? = tm[s]?
 let T (listed:Array Bool) (o:List OB) (t:List AV):Prop:=(∀ j,j < l.length → listed.getD j false=true → ∀ e ∈ anc.getD j [],listed.getD e false=true) ∧ ∃ k hist u,k ≤ m ∧ (∀ j,j < m → listed.getD (ci j) false=decide (j < k)) ∧ zaL P hist o ∧ St k hist u ∧
  (if k=m then K .normal o u else wpR P [zaq l (ci k)] o u fun o' t' => zaL P hist o' ∧ wpT P (zay l anc (m - k - 1) (k + 1)) hist (lvL l anc m) o' t' fun o t => K .normal o t) ∧ Mix l l.length listed u tm t
 have level:∀ (k:Nat) (hist:List (List SO × List AV × List AV)) (o:List OB) (tb:List AV),k ≤ m → tb.length=tm.length → (∀ s,(∀ i,i < l.length → rkO l anc i < 2 * k → zag l i ≠ some s) → tb[s]? = tm[s]?) → zaL P hist o →
   wpT P (zay l anc (m - k) k) hist (lvL l anc m) o tb (fun o t => K .normal o t) → ∃ u,u.length=tm.length ∧ zaL P ((lvL l anc k,tb,u) :: hist) o ∧ (∀ s,(∀ i,i < l.length → rkO l anc i=2 * k → zag l i ≠ some s) → u[s]? = tb[s]?) ∧
   (if k=m then K .normal o u else wpR P [zaq l (ci k)] o u fun o' t' => zaL P ((lvL l anc k,tb,u) :: hist) o' ∧ wpT P (zay l anc (m - k - 1) (k + 1)) ((lvL l anc k,tb,u) :: hist) (lvL l anc m) o' t' fun o t => K .normal o t):=by
  intro k hist o tb hk htb hb hrc hw
  have out:∀ u,wpR P (lvL l anc k) o tb (fun _ x => x=u) → u.length=tm.length ∧ ∀ s,(∀ i,i < l.length → rkO l anc i=2 * k → zag l i ≠ some s) → u[s]? = tb[s]?:=by
   intro u hu
   obtain ⟨u',rfl,h2,h3,_⟩:=zcR _ _ _ _ (lvCalm k) (lvNd k) hu
   refine ⟨h2.trans htb,fun s hs => h3 s fun so hso e => ?_⟩
   obtain ⟨i,g1,g2,rfl⟩:=zaX.1 hso
   exact hs i g1 (by simpa using g2) (by rw [zal g1]; exact e)
  by_cases hkm:k=m
  ·subst hkm
   rw [Nat.sub_self] at hw
   simp only [zay,wpT] at hw
   obtain ⟨u,h1,h2⟩:=zbS _ _ _ _ (lvCalm k) hw
   obtain ⟨h3,h4⟩:=out u h2
   exact ⟨u,h3,⟨h2,hrc⟩,h4,by rw [if_pos rfl]; exact h1⟩
  ·obtain ⟨r,hr⟩:∃ r,m - k=r + 1:=⟨m - k - 1,by omega⟩
   rw [hr] at hw
   simp only [zay,wpT] at hw
   obtain ⟨u,h1,h2⟩:=zbS _ _ _ _ (lvCalm k) hw
   obtain ⟨h3,h4⟩:=out u h2
   refine ⟨u,h3,⟨h2,hrc⟩,h4,?_⟩
   rw [if_neg hkm,hr,Nat.add_sub_cancel]
   exact h1
 have agree:∀ (listed:Array Bool) (x1 t:List AV) (i:Nat),i < l.length → listed.getD i false=false → (∀ j ∈ anc.getD i [],listed.getD j false=true) → (∀ j,j < l.length → listed.getD j false=true → ∀ e ∈ anc.getD j [],listed.getD e false=true) → Mix l l.length listed x1 tm t →
   ∀ s ∈ (zaq l i).looks,((∀ j,j < l.length → zag l j=some s → listed.getD j false=true ∧ j ∈ anc.getD i [] ∧ t[s]? = x1[s]?) ∨ (∃ j,j < l.length ∧ zag l j=some s ∧ (j=i ∨ i ∈ anc.getD j []) ∧ listed.getD j false=false ∧ t[s]? = tm[s]?)) ∧ ((∀ j,j < l.length → zag l j ≠ some s) → t[s]? = tm[s]?):=by
  intro listed x1 t i hi hun hanc hclo hmix s hs
  refine ⟨?_,fun hno => hmix.2.2 s fun j g1 _ => hno j g1⟩
  by_cases hj:∃ j,j < l.length ∧ zag l j=some s
  ·obtain ⟨j,hj1,hj2⟩:=hj
   have tmcase:listed.getD j false=false → t[s]? = tm[s]?:=fun hu =>
    hmix.2.2 s fun j' g1 g2 g3 => by rw [only s j j' hj1 g1 hj2 g3,hu] at g2; cases g2
   rcases hd3 i hi s hs j hj1 with ((g | g) | g) | g
   ·subst g; exact .inr ⟨j,hj1,hj2,.inl rfl,hun,tmcase hun⟩
   ·exact absurd hj2 g
   ·left
    intro j' g1 g2
    obtain rfl:=only s j j' hj1 g1 hj2 g2
    exact ⟨hanc _ g,g,hmix.2.1 s _ hj1 (hanc _ g) hj2⟩
   ·have hu:listed.getD j false=false:=by
     cases hq:listed.getD j false with
     | false => rfl
     | true =>
      have:=hclo j hj1 hq i g
      rw [hun] at this; cases this
    exact .inr ⟨j,hj1,hj2,.inr g,hu,tmcase hu⟩
  ·exact .inl fun j g1 g2 => absurd ⟨j,g1,g2⟩ hj
 have evOf:∀ (i:Nat) (t ti:List AV),(∀ s ∈ (zaq l i).looks,t[s]? = ti[s]?) → ∀ x ∈ (zaq l i).op.svs,x.ev t=x.ev ti:=by
  intro i t ti hs x hx
  cases x with
  | c v => rfl
  | t s =>
   simp only [SV.ev]
   rw [hs s (List.mem_append_left _ (List.mem_filterMap.2 ⟨_,hx,rfl⟩))]
 have hge:∀ i j,i < l.length → j < l.length → (j=i ∨ i ∈ anc.getD j []) → rkO l anc i ≤ rkO l anc j:=by
  rintro i j hi hj (rfl | h)
  ·exact Nat.le_refl _
  ·exact hrk' j i hj hi h
 refine hfin T (fun o t => o=objs ∧ t=tm) ?_ ?_ ?_ ?_
 ·rintro listed o t hs _ h2 ⟨rfl,rfl⟩
  have hall:∀ j,j < l.length → listed.getD j false=false:=fun j hj => h2 j (Nat.zero_le _) (by omega)
  obtain ⟨u,q1,q2,q3,q4⟩:=level 0 [] o t (Nat.zero_le _) rfl (fun s _ => rfl) trivial h
  refine ⟨(fun j hj hl => by rw [hall j hj] at hl; cases hl),0,_,u,Nat.zero_le _,(fun j hj => ?_),q2,⟨q1,?_,?_⟩,q4,rfl,(fun s j hj hl => ?_),(fun s _ => rfl)⟩
  ·rw [hall _ (cMem j hj).1]; symm; exact decide_eq_false (by omega)
  ·intro j hj
   obtain rfl:j=0:=by omega
   exact ⟨_,List.mem_cons_self ..,rfl,rfl,q1,(fun s i hi hd hr => by omega),(fun s _ => rfl),fun s i hi hd hr => rfl⟩
  ·intro s hs
   exact q3 s fun i hi hr => hs i hi (by omega)
  ·rw [hall j hj] at hl; cases hl
 ·intro listed o t i so hs hso _ hin hun hanci hT
  obtain ⟨hclo,k,hist,u,hk,hck,hrc,⟨hul,hent,hout⟩,hcont,hmix⟩:=hT
  have hi:i < l.length:=by omega
  obtain rfl:=zcC hso
  have hset:∀ j,(listed.setIfInBounds i true).getD j false=if j=i then true else listed.getD j false:=fun j => zaR listed i j false (by omega)
  have hclo':∀ j,j < l.length → (listed.setIfInBounds i true).getD j false=true → ∀ e ∈ anc.getD j [],(listed.setIfInBounds i true).getD e false=true:=by
   intro j hj hl e he
   rw [hset] at hl ⊢
   split
   ·rfl
   ·split at hl
    ·rename_i e1; subst e1; exact hanci e he
    ·exact hclo j hj hl e he
  have low:∀ j,j < l.length → (∀ e ∈ anc.getD j [],listed.getD e false=true) → k < m → j ≠ ci k → rkO l anc j ≤ 2 * k:=by
   intro j hj ha hkm hne
   rcases hcl (ci k) (cMem k hkm).1 with h0 | h0
   ·rw [(cMem k hkm).2] at h0; cases h0
   ·rcases h0 j hj with (h1 | h1) | h1
    ·exact absurd h1 hne
    ·rw [ciRk k hkm] at h1; omega
    ·have:=ha _ ((ancIff j _).1 h1)
     rw [hck k hkm] at this
     have:=of_decide_eq_true this
     omega
  by_cases hcc:goB (zaq l i)=true
  ·-- a call
   obtain ⟨k',hk',rfl⟩:=callIs i hi hcc
   have hkk:k'=k:=by
    have e1:=hck k' hk'
    rw [hun] at e1
    have e1:=of_decide_eq_false e1.symm
    rcases Nat.lt_or_ge k k' with h0 | h0
    ·have h1:=low (ci k') hi hanci (by omega) (fun e => by
      have a1:=ciRk k' hk'
      have a2:=ciRk k (by omega)
      rw [e] at a1; omega)
     rw [ciRk k' hk'] at h1
     omega
    ·omega
   subst hkk
   rw [if_neg (by omega)] at hcont
   obtain ⟨cd,cop,hce,hcop⟩:=zjf hcc
   have hcd:zag l (ci k')=some cd:=by rw [zal hi,hce]
   have hlook:∀ s ∈ (zaq l (ci k')).looks,t[s]? = u[s]?:=by
    intro s hs
    obtain ⟨w1,w2⟩:=agree listed u t (ci k') hi hun hanci hclo hmix s hs
    by_cases hj:∃ j,j < l.length ∧ zag l j=some s
    ·obtain ⟨j,hj1,hj2⟩:=hj
     rcases w1 with w1 | ⟨j',g1,g2,g3,g4,g5⟩
     ·exact (w1 j hj1 hj2).2.2
     ·rw [g5]
      refine (hout s fun i' q1 q2 q3 => ?_).symm
      have:=only s j' i' g1 q1 g2 q3
      subst this
      have:=hge (ci k') i' hi q1 g3
      rw [ciRk k' hk'] at this
      omega
    ·rw [w2 fun j g1 g2 => hj ⟨j,g1,g2⟩,hout s fun j g1 _ g2 => hj ⟨j,g1,g2⟩]
   have hev:=evOf (ci k') t u hlook
   rw [hce] at hcont hev ⊢
   simp only [wpR,zaj] at hcont ⊢
   rw [zaP hev]
   refine ze0 hcop (fun o2 v hq => ?_) hcont
   obtain ⟨hq1,hq2⟩:=hq
   have hub:∀ s,(∀ i,i < l.length → rkO l anc i < 2 * (k' + 1) → zag l i ≠ some s) → (u.set cd v)[s]? = tm[s]?:=by
    intro s hs
    have hne:¬ cd=s:=fun e => hs (ci k') hi (by rw [ciRk k' hk']; omega) (by rw [hcd,e])
    rw [List.getElem?_set_ne hne]
    exact hout s fun i' g1 g2 => hs i' g1 (by omega)
   obtain ⟨u',q1,q2,q3,q4⟩:=level (k' + 1) hist o2 (u.set cd v) (by omega) (by rw [List.length_set]; exact hul) hub hq1 (by rw [show m - (k' + 1)=m - k' - 1 by omega]; exact hq2)
   have hkeep:∀ s i',i' < l.length → zag l i'=some s → rkO l anc i' ≤ 2 * k' → u'[s]? = u[s]?:=by
    intro s i' g1 g2 g3
    rw [q3 s fun i2 w1 w2 w3 => by
     have:=only s i' i2 g1 w1 g2 w3
     subst this; omega]
    refine List.getElem?_set_ne fun e => ?_
    have:=only s i' (ci k') g1 hi g2 (by rw [hcd,e])
    rw [← this,ciRk k' hk'] at g3
    omega
   refine ⟨hclo',k' + 1,_,u',by omega,fun j hj => ?_,q2,⟨q1,fun j hj => ?_,fun s hs => ?_⟩,q4,?_⟩
   ·rw [hset]
    by_cases e:j=k'
    ·subst e; rw [if_pos rfl]; symm; exact decide_eq_true (by omega)
    ·rw [if_neg (fun h => e (by
      have a1:=ciRk j hj
      have a2:=ciRk k' hk'
      rw [h] at a1; omega)),hck j hj]
     congr 1; apply propext; omega
   ·by_cases e:j=k' + 1
    ·subst e
     refine ⟨_,List.mem_cons_self ..,rfl,by rw [List.length_set]; exact hul,q1,fun s i' g1 g2 g3 => ?_,hub,fun s i' g1 g2 g3 => rfl⟩
     exact (q3 s fun i2 w1 w2 w3 => by
      have:=only s i' i2 g1 w1 g2 w3
      subst this; omega).symm
    ·obtain ⟨en,h1,h2,h3,h4,h5,h6,h7⟩:=hent j (by omega)
     refine ⟨en,List.mem_cons_of_mem _ h1,h2,h3,h4,fun s i' g1 g2 g3 => ?_,h6,fun s i' g1 g2 g3 => ?_⟩
     ·rw [h5 s i' g1 g2 g3,hkeep s i' g1 g2 (by omega)]
     ·rw [h7 s i' g1 g2 g3,hkeep s i' g1 g2 (by omega)]
   ·rw [q3 s fun i' g1 g2 => hs i' g1 (by omega)]
    exact hub s fun i' g1 g2 => hs i' g1 (by omega)
   ·have hm2:Mix l l.length listed u' tm t:=by
     refine ⟨hmix.1,fun s j hj hl hd => ?_,hmix.2.2⟩
     have hjl:=low j hj (hclo j hj hl) hk' (fun e => by rw [e,hun] at hl; cases hl)
     rw [hkeep s j hj hd hjl]
     exact hmix.2.1 s j hj hl hd
    refine hm2.step hi (by omega) hcd hdis hun (fun hlt => ?_) q1
    rw [q3 cd fun i2 w1 w2 w3 => by
     have:=only cd (ci k') i2 hi w1 hcd w3
     subst this
     rw [ciRk k' hk'] at w2; omega]
    exact List.getElem?_set_self (by omega)
  ·-- a calm operation
   have hrke:∃ j,rkO l anc i=2 * j:=by
    have:=evenOdd i
    rw [if_neg hcc] at this
    exact ⟨rkO l anc i / 2,by omega⟩
   obtain ⟨j,hj⟩:=hrke
   have hjk:j ≤ k:=by
    by_cases hkm:k=m
    ·have:=(hbd i hi).1
     omega
    ·have h1:=low i hi hanci (by omega) (fun e => by
      have:=ciRk k (by omega)
      rw [← e] at this; omega)
     omega
   obtain ⟨d,op,hso2,c1,c2⟩:=calmOf i hi j hj
   have hdi:zag l i=some d:=by rw [zal hi,hso2]
   obtain ⟨⟨L,b,x⟩,he1,rfl,he3,he4,he5,he6,he7⟩:=hent j hjk
   simp only at he3 he4 he5 he6 he7
   have hrun:=zcT hrc _ he1
   simp only at hrun
   obtain ⟨x',rfl,hxl,hxo,hseq⟩:=zcR _ _ _ _ (lvCalm j) (lvNd j) hrun
   have hp:(fun i => rkO l anc i == 2 * j) i=true:=by simpa using hj
   obtain ⟨B,hB1,_,_⟩:=zbJ (p:=fun i => rkO l anc i == 2 * j) l hi hp
   obtain ⟨ti,v,m1,m2,m3,m4⟩:=hseq _ _ _ (hB1 _ hp)
   have hA:∀ a,a ∈ zbP i (fun i => rkO l anc i == 2 * j) l ↔ ∃ j',j' < i ∧ rkO l anc j'=2 * j ∧ zaq l j'=a:=fun a => by
    rw [zaX]; simp
   have hlook:∀ s ∈ (zaq l i).looks,t[s]? = ti[s]?:=by
    intro s hs
    obtain ⟨w1,w2⟩:=agree listed u t i hi hun hanci hclo hmix s hs
    by_cases hjx:∃ j,j < l.length ∧ zag l j=some s
    ·obtain ⟨j',hj1,hj2⟩:=hjx
     rcases w1 with w1 | ⟨j2,g1,g2,g3,g4,g5⟩
     ·obtain ⟨_,q2,q3⟩:=w1 j' hj1 hj2
      have hji:=halt i (by omega) j' q2
      have hr:=hrk' i j' hi hj1 q2
      rw [q3]
      by_cases e:rkO l anc j'=2 * j
      ·rw [m2 s ⟨_,(hA _).2 ⟨j',hji,e,rfl⟩,by rw [← zal hj1]; exact hj2⟩]
       exact (he7 s j' hj1 hj2 e).symm
      ·rw [m3 s fun a ha e2 => by
        obtain ⟨j3,z1,z2,rfl⟩:=(hA a).1 ha
        have:=only s j' j3 hj1 (by omega) hj2 (by rw [zal (by omega)]; exact e2)
        subst this; exact e z2]
       exact (he5 s j' hj1 hj2 (by omega)).symm
     ·have hr:=hge i j2 hi g1 g3
      rw [g5]
      rw [m3 s fun a ha e2 => by
       obtain ⟨j3,z1,z2,rfl⟩:=(hA a).1 ha
       have:=only s j2 j3 g1 (by omega) g2 (by rw [zal (by omega)]; exact e2)
       subst this
       rcases g3 with rfl | g3
       ·omega
       ·have:=halt j3 (by omega) i g3
        omega]
      refine (he6 s fun i2 z1 z2 z3 => ?_).symm
      have:=only s j2 i2 g1 z1 g2 z3
      subst this; omega
    ·rw [w2 fun j g1 g2 => hjx ⟨j,g1,g2⟩]
     rw [m3 s fun a ha e2 => by
      obtain ⟨j3,z1,z2,rfl⟩:=(hA a).1 ha
      exact hjx ⟨j3,by omega,by rw [zal (by omega)]; exact e2⟩]
     exact (he6 s fun i2 z1 _ z3 => hjx ⟨i2,z1,z3⟩).symm
   have hev:=evOf i t ti hlook
   have hv:d < tm.length → u[d]? = some v:=fun hlt => by
    rw [← he7 d i hi hdi hj]
    exact m4 d (by rw [hso2]) (by omega)
   rw [hso2] at hev m1 ⊢
   rw [← zaP hev] at m1
   simp only [wpR,zaj]
   obtain ⟨y,g3,_,rfl⟩:=za6 c1 c2 m1
   refine g3 _ ⟨hclo',k,hist,u,hk,fun j' hj' => ?_,hrc,⟨hul,hent,hout⟩,hcont,hmix.step hi (by omega) hdi hdis hun hv hul⟩
   rw [hset,if_neg (fun e => hcc (by rw [← e]; exact (cMem j' hj').2))]
   exact hck j' hj'
 ·intro listed o t hs hall hT
  have hall:∀ j,j < l.length → listed.getD j false=true:=fun j hj => hall j (by omega)
  obtain ⟨hclo,k,hist,u,hk,hck,hrc,⟨hul,hent,hout⟩,hcont,hmix⟩:=hT
  have hkm:k=m:=by
   rcases Nat.lt_or_ge k m with h0 | h0
   ·have:=hck k h0
    rw [hall _ (cMem k h0).1] at this
    have:=of_decide_eq_true this.symm
    omega
   ·omega
  subst hkm
  rw [if_pos rfl] at hcont
  have:t=u:=by
   refine List.ext_getElem? fun s => ?_
   by_cases hj:∃ j,j < l.length ∧ zag l j=some s
   ·obtain ⟨j,hj1,hj2⟩:=hj
    exact hmix.2.1 s j hj1 (hall j hj1) hj2
   ·rw [hmix.2.2 s fun j g1 _ g3 => hj ⟨j,g1,g3⟩,hout s fun j g1 _ g3 => hj ⟨j,g1,g3⟩]
  rw [this]
  exact hcont
 ·simp only [List.take_zero,wpD,hap0,zcH,and_self]
end
abbrev Hst:=List (List SO × List AV × List AV)
def EntV (l:List SO) (anc:List (List Nat)) (tm:List AV) (e:List SO × List AV × List AV) (u:List AV) (j:Nat):Prop:=e.1=lvL l anc j ∧ e.2.1.length=tm.length ∧ e.2.2.length=tm.length ∧ (∀ s i,i < l.length → zag l i=some s → rkO l anc i < 2 * j → e.2.1[s]? = u[s]?) ∧ (∀ s,(∀ i,i < l.length → rkO l anc i < 2 * j → zag l i ≠ some s) → e.2.1[s]? = tm[s]?) ∧ ∀ s i,i < l.length → zag l i=some s → rkO l anc i=2 * j → e.2.2[s]? = u[s]?
def StV (l:List SO) (anc:List (List Nat)) (tm:List AV) (k:Nat) (hist:Hst) (u:List AV):Prop:=u.length=tm.length ∧ (∀ j,j ≤ k → ∃ e ∈ hist,EntV l anc tm e u j) ∧ ∀ s,(∀ i,i < l.length → rkO l anc i ≤ 2 * k → zag l i ≠ some s) → u[s]? = tm[s]?
def TTV (P:Program) [Tabs P] (l:List SO) (anc:List (List Nat)) (m:Nat) (tm:List AV) (W:Nat → Hst → List OB → List AV → Prop) (listed:Array Bool) (o:List OB) (t:List AV):Prop :=
 (∀ j,j < l.length → listed.getD j false=true → ∀ e ∈ anc.getD j [],listed.getD e false=true) ∧ ∃ k hist u,k ≤ m ∧ (∀ j,j < m → listed.getD ((zan l).getD j 0) false=decide (j < k)) ∧ zaL P hist o ∧ StV l anc tm k hist u ∧ W k hist o u ∧ Mix l l.length listed u tm t
def zg6 (l:List SO) (anc:List (List Nat)):Bool :=
 (List.range l.length).all (fun i => zag l i == none || (List.range l.length).all fun j => i == j || zag l j != zag l i) &&
 (List.range l.length).all (fun i => (zaq l i).looks.all fun t => (List.range l.length).all fun j => j == i || zag l j != some t || (anc.getD i []).contains j || (anc.getD j []).contains i) &&
 (List.range l.length).all (fun i => goB (zaq l i) || zb7 (zaq l i)) &&
 (List.range l.length).all (fun i => (List.range l.length).all fun j => !zb9 anc i j || decide (rkO l anc j ≤ rkO l anc i)) &&
 (List.range l.length).all (fun c => !goB (zaq l c) || (List.range l.length).all fun j => j == c || decide (rkO l anc j < rkO l anc c) || zb9 anc j c) &&
 (List.range (zan l).length).all (fun k => rkO l anc ((zan l).getD k 0) == 2 * k + 1) &&
 (List.range l.length).all (fun i => decide (rkO l anc i ≤ 2 * (zan l).length) && (!goB (zaq l i) || i == (zan l).getD (rkO l anc i / 2) 0)) &&
 (List.range l.length).all (fun i => (anc.getD i []).all fun j => decide (j < i))
section
variable {P:Program} [Tabs P]
theorem zeL (l:List SO) (anc:List (List Nat)) (hok:zg6 l anc=true) (m:Nat) (hmm:(zan l).length=m) (tm:List AV) (W:Nat → Hst → List OB → List AV → Prop)
  (hWs:∀ (k:Nat) (hist:Hst) (o:List OB) (u:List AV),k < m → W k hist o u → wpR P [zaq l ((zan l).getD k 0)] o u (fun o' t' => zaL P hist o' ∧ ∃ u',wpR P (lvL l anc (k + 1)) o' t' (fun _ x => x=u') ∧ W (k + 1) ((lvL l anc (k + 1),t',u') :: hist) o' u')) :
  (∀ (objs:List OB) (u:List AV),wpR P (lvL l anc 0) objs tm (fun _ x => x=u) → W 0 [(lvL l anc 0,tm,u)] objs u → ∀ listed:Array Bool,(∀ j,j < l.length → listed.getD j false=false) → TTV P l anc m tm W listed objs tm) ∧
  (∀ (listed:Array Bool) (o:List OB) (t:List AV) (i:Nat),l.length ≤ listed.size → i < l.length → listed.getD i false=false → (∀ j ∈ anc.getD i [],listed.getD j false=true) → TTV P l anc m tm W listed o t → wpR P [zaq l i] o t (fun o2 t2 => TTV P l anc m tm W (listed.setIfInBounds i true) o2 t2)) ∧
  (∀ (listed:Array Bool) (o:List OB) (t:List AV),(∀ j,j < l.length → listed.getD j false=true) → TTV P l anc m tm W listed o t → ∃ hist,W m hist o t):=by
 unfold zg6 at hok
 simp only [Bool.and_eq_true] at hok
 obtain ⟨⟨⟨⟨⟨⟨⟨hd2,hd3⟩,hkd⟩,hrk⟩,hcl⟩,hci⟩,hbd⟩,hlt⟩:=hok
 simp only [Bool.and_eq_true,decide_eq_true_eq,List.all_eq_true,List.mem_range,Bool.or_eq_true,bne_iff_ne,ne_eq,beq_iff_eq,List.any_eq_true,List.contains_iff_mem,Bool.not_eq_true'] at hd2 hd3 hkd hrk hcl hci hbd hlt
 have halt:∀ i,i < l.length → ∀ j ∈ anc.getD i [],j < i:=fun i hi j hj => hlt i hi j hj
 have ancIff:∀ i j,zb9 anc i j=true ↔ j ∈ anc.getD i []:=fun i j => by unfold zb9; exact List.contains_iff_mem
 have hdis:∀ a b,a < l.length → b < l.length → a ≠ b → zag l a ≠ none → zag l a ≠ zag l b:=fun a b ha hb hab hn e => by
  rcases hd2 a ha with h0 | h0
  ·exact hn h0
  ·rcases h0 b hb with h1 | h1
   ·exact hab h1
   ·exact h1 e.symm
 have only:∀ s j j',j < l.length → j' < l.length → zag l j=some s → zag l j'=some s → j'=j:=by
  intro s j j' h1 h2 h3 h4
  by_cases e:j'=j
  ·exact e
  ·exact absurd (h4.trans h3.symm) (hdis j' j h2 h1 e (by rw [h4]; simp))
 have hrk':∀ i j,i < l.length → j < l.length → j ∈ anc.getD i [] → rkO l anc j ≤ rkO l anc i:=by
  intro i j hi hj hm
  rcases hrk i hi j hj with h0 | h0
  ·rw [(ancIff i j).2 hm] at h0; cases h0
  ·exact h0
 have evenOdd:∀ i,rkO l anc i % 2=if goB (zaq l i)=true then 1 else 0:=by
  intro i; unfold rkO; split <;> omega
 have calmOf:∀ i,i < l.length → ∀ j,rkO l anc i=2 * j → ∃ d op,zaq l i=⟨some d,op,none⟩ ∧ op.calm=true ∧ op.isCall=false:=by
  intro i hi j hj
  have:=evenOdd i
  rw [hj] at this
  have hn:¬ goB (zaq l i)=true:=fun h => by rw [if_pos h] at this; omega
  rcases hkd i hi with h0 | h0
  ·exact absurd h0 hn
  ·exact zbN h0
 have lvCalm:∀ k,∀ so ∈ lvL l anc k,zb7 so=true:=by
  intro k so hs
  obtain ⟨i,hi,hp,rfl⟩:=zaX.1 hs
  have hp:rkO l anc i=2 * k:=by simpa using hp
  have:=evenOdd i
  have hn:¬ goB (zaq l i)=true:=fun h => by rw [if_pos h] at this; omega
  rcases hkd i hi with h0 | h0
  ·exact absurd h0 hn
  ·exact h0
 have lvNd:∀ k,((lvL l anc k).map (·.dst)).Nodup:=by
  intro k
  unfold lvL zbP
  rw [List.map_map]
  have h0:((List.range l.length).filter (fun i => rkO l anc i == 2 * k)).Nodup:=List.nodup_range.sublist List.filter_sublist
  refine List.Pairwise.map _ ?_ (List.Pairwise.and_mem.1 h0)
  rintro a b ⟨ha,hb,hab⟩ e
  rw [List.mem_filter,List.mem_range] at ha hb
  obtain ⟨d,op,e1,_⟩:=calmOf a ha.1 k (by simpa using ha.2)
  refine hdis a b ha.1 hb.1 hab ?_ ?_
  ·rw [zal ha.1,e1]; simp
  ·rw [zal ha.1,zal hb.1]; exact e
 simp only [hmm] at hci hbd
 have cMem:∀ k,k < m → (zan l).getD k 0 < l.length ∧ goB (zaq l ((zan l).getD k 0))=true:=by
  intro k hk
  have h0:(zan l).getD k 0 ∈ zan l:=by
   rw [List.getD_eq_getElem?_getD,List.getElem?_eq_getElem (by omega)]
   exact List.getElem_mem _
  unfold zan at h0 ⊢
  rw [List.mem_filter,List.mem_range] at h0
  exact h0
 let ci:Nat → Nat:=fun k => (zan l).getD k 0
 have ciRk:∀ k,k < m → rkO l anc (ci k)=2 * k + 1:=fun k hk => hci k hk
 have callIs:∀ i,i < l.length → goB (zaq l i)=true → ∃ k,k < m ∧ i=ci k:=by
  intro i hi hc
  have h1:=(hbd i hi).1
  have h2:=evenOdd i
  rw [if_pos hc] at h2
  rcases (hbd i hi).2 with h0 | h0
  ·rw [hc] at h0; cases h0
  ·exact ⟨rkO l anc i / 2,by omega,h0⟩
 have level:∀ (k:Nat) (o:List OB) (tb u:List AV),tb.length=tm.length → wpR P (lvL l anc k) o tb (fun _ x => x=u) → u.length=tm.length ∧ ∀ s,(∀ i,i < l.length → rkO l anc i=2 * k → zag l i ≠ some s) → u[s]? = tb[s]?:=by
  intro k o tb u htb hu
  obtain ⟨u',rfl,h2,h3,_⟩:=zcR _ _ _ _ (lvCalm k) (lvNd k) hu
  refine ⟨h2.trans htb,fun s hs => h3 s fun so hso e => ?_⟩
  obtain ⟨i,g1,g2,rfl⟩:=zaX.1 hso
  exact hs i g1 (by simpa using g2) (by rw [zal g1]; exact e)
 have agree:∀ (listed:Array Bool) (x1 t:List AV) (i:Nat),i < l.length → listed.getD i false=false → (∀ j ∈ anc.getD i [],listed.getD j false=true) → (∀ j,j < l.length → listed.getD j false=true → ∀ e ∈ anc.getD j [],listed.getD e false=true) → Mix l l.length listed x1 tm t →
   ∀ s ∈ (zaq l i).looks,((∀ j,j < l.length → zag l j=some s → listed.getD j false=true ∧ j ∈ anc.getD i [] ∧ t[s]? = x1[s]?) ∨ (∃ j,j < l.length ∧ zag l j=some s ∧ (j=i ∨ i ∈ anc.getD j []) ∧ listed.getD j false=false ∧ t[s]? = tm[s]?)) ∧ ((∀ j,j < l.length → zag l j ≠ some s) → t[s]? = tm[s]?):=by
  intro listed x1 t i hi hun hanc hclo hmix s hs
  refine ⟨?_,fun hno => hmix.2.2 s fun j g1 _ => hno j g1⟩
  by_cases hj:∃ j,j < l.length ∧ zag l j=some s
  ·obtain ⟨j,hj1,hj2⟩:=hj
   have tmcase:listed.getD j false=false → t[s]? = tm[s]?:=fun hu =>
    hmix.2.2 s fun j' g1 g2 g3 => by rw [only s j j' hj1 g1 hj2 g3,hu] at g2; cases g2
   rcases hd3 i hi s hs j hj1 with ((g | g) | g) | g
   ·subst g; exact .inr ⟨j,hj1,hj2,.inl rfl,hun,tmcase hun⟩
   ·exact absurd hj2 g
   ·left
    intro j' g1 g2
    obtain rfl:=only s j j' hj1 g1 hj2 g2
    exact ⟨hanc _ g,g,hmix.2.1 s _ hj1 (hanc _ g) hj2⟩
   ·have hu:listed.getD j false=false:=by
     cases hq:listed.getD j false with
     | false => rfl
     | true =>
      have:=hclo j hj1 hq i g
      rw [hun] at this; cases this
    exact .inr ⟨j,hj1,hj2,.inr g,hu,tmcase hu⟩
  ·exact .inl fun j g1 g2 => absurd ⟨j,g1,g2⟩ hj
 have evOf:∀ (i:Nat) (t ti:List AV),(∀ s ∈ (zaq l i).looks,t[s]? = ti[s]?) → ∀ x ∈ (zaq l i).op.svs,x.ev t=x.ev ti:=by
  intro i t ti hs x hx
  cases x with
  | c v => rfl
  | t s =>
   simp only [SV.ev]
   rw [hs s (List.mem_append_left _ (List.mem_filterMap.2 ⟨_,hx,rfl⟩))]
 have hge:∀ i j,i < l.length → j < l.length → (j=i ∨ i ∈ anc.getD j []) → rkO l anc i ≤ rkO l anc j:=by
  rintro i j hi hj (rfl | h)
  ·exact Nat.le_refl _
  ·exact hrk' j i hj hi h
 refine ⟨?_,?_,?_⟩
 ·intro objs u hu hW listed hall
  obtain ⟨q1,q3⟩:=level 0 objs tm u rfl hu
  refine ⟨(fun j hj hl => by rw [hall j hj] at hl; cases hl),0,[(lvL l anc 0,tm,u)],u,Nat.zero_le _,(fun j hj => by rw [hall _ (cMem j hj).1]; symm; exact decide_eq_false (by omega)),⟨hu,trivial⟩,⟨q1,?_,?_⟩,hW,rfl,(fun s j hj hl => ?_),(fun s _ => rfl)⟩
  ·intro j hj
   obtain rfl:j=0:=by omega
   exact ⟨_,List.mem_cons_self ..,rfl,rfl,q1,(fun s i hi hd hr => by omega),(fun s _ => rfl),fun s i hi hd hr => rfl⟩
  ·intro s hs
   exact q3 s fun i hi hr => hs i hi (by omega)
  ·rw [hall j hj] at hl; cases hl
 ·intro listed o t i hs hi hun hanci hT
  obtain ⟨hclo,k,hist,u,hk,hck,hrc,⟨hul,hent,hout⟩,hcont,hmix⟩:=hT
  have hset:∀ j,(listed.setIfInBounds i true).getD j false=if j=i then true else listed.getD j false:=fun j => zaR listed i j false (by omega)
  have hclo':∀ j,j < l.length → (listed.setIfInBounds i true).getD j false=true → ∀ e ∈ anc.getD j [],(listed.setIfInBounds i true).getD e false=true:=by
   intro j hj hl e he
   rw [hset] at hl ⊢
   split
   ·rfl
   ·split at hl
    ·rename_i e1; subst e1; exact hanci e he
    ·exact hclo j hj hl e he
  have low:∀ j,j < l.length → (∀ e ∈ anc.getD j [],listed.getD e false=true) → k < m → j ≠ ci k → rkO l anc j ≤ 2 * k:=by
   intro j hj ha hkm hne
   rcases hcl (ci k) (cMem k hkm).1 with h0 | h0
   ·rw [(cMem k hkm).2] at h0; cases h0
   ·rcases h0 j hj with (h1 | h1) | h1
    ·exact absurd h1 hne
    ·rw [ciRk k hkm] at h1; omega
    ·have:=ha _ ((ancIff j _).1 h1)
     rw [hck k hkm] at this
     have:=of_decide_eq_true this
     omega
  by_cases hcc:goB (zaq l i)=true
  ·-- a call
   obtain ⟨k',hk',rfl⟩:=callIs i hi hcc
   have hkk:k'=k:=by
    have e1:=hck k' hk'
    rw [hun] at e1
    have e1:=of_decide_eq_false e1.symm
    rcases Nat.lt_or_ge k k' with h0 | h0
    ·have h1:=low (ci k') hi hanci (by omega) (fun e => by
      have a1:=ciRk k' hk'
      have a2:=ciRk k (by omega)
      rw [e] at a1; omega)
     rw [ciRk k' hk'] at h1
     omega
    ·omega
   subst hkk
   have hcont:=hWs k' hist o u hk' hcont
   obtain ⟨cd,cop,hce,hcop⟩:=zjf hcc
   have hcd:zag l (ci k')=some cd:=by rw [zal hi,hce]
   have hlook:∀ s ∈ (zaq l (ci k')).looks,t[s]? = u[s]?:=by
    intro s hs
    obtain ⟨w1,w2⟩:=agree listed u t (ci k') hi hun hanci hclo hmix s hs
    by_cases hj:∃ j,j < l.length ∧ zag l j=some s
    ·obtain ⟨j,hj1,hj2⟩:=hj
     rcases w1 with w1 | ⟨j',g1,g2,g3,g4,g5⟩
     ·exact (w1 j hj1 hj2).2.2
     ·rw [g5]
      refine (hout s fun i' q1 q2 q3 => ?_).symm
      have:=only s j' i' g1 q1 g2 q3
      subst this
      have:=hge (ci k') i' hi q1 g3
      rw [ciRk k' hk'] at this
      omega
    ·rw [w2 fun j g1 g2 => hj ⟨j,g1,g2⟩,hout s fun j g1 _ g2 => hj ⟨j,g1,g2⟩]
   have hev:=evOf (ci k') t u hlook
   rw [show zaq l ((zan l).getD k' 0)=_ from hce] at hcont
   rw [hce] at hev ⊢
   simp only [wpR,zaj] at hcont ⊢
   rw [zaP hev]
   refine ze0 hcop (fun o2 v hq => ?_) hcont
   obtain ⟨hq1,u',hq2,hq3⟩:=hq
   have hub:∀ s,(∀ i,i < l.length → rkO l anc i < 2 * (k' + 1) → zag l i ≠ some s) → (u.set cd v)[s]? = tm[s]?:=by
    intro s hs
    have hne:¬ cd=s:=fun e => hs (ci k') hi (by rw [ciRk k' hk']; omega) (by rw [hcd,e])
    rw [List.getElem?_set_ne hne]
    exact hout s fun i' g1 g2 => hs i' g1 (by omega)
   obtain ⟨q1,q3⟩:=level (k' + 1) o2 (u.set cd v) u' (by rw [List.length_set]; exact hul) hq2
   have hkeep:∀ s i',i' < l.length → zag l i'=some s → rkO l anc i' ≤ 2 * k' → u'[s]? = u[s]?:=by
    intro s i' g1 g2 g3
    rw [q3 s fun i2 w1 w2 w3 => by
     have:=only s i' i2 g1 w1 g2 w3
     subst this; omega]
    refine List.getElem?_set_ne fun e => ?_
    have:=only s i' (ci k') g1 hi g2 (by rw [hcd,e])
    rw [← this,ciRk k' hk'] at g3
    omega
   refine ⟨hclo',k' + 1,(lvL l anc (k' + 1),u.set cd v,u') :: hist,u',by omega,fun j hj => ?_,⟨hq2,hq1⟩,⟨q1,fun j hj => ?_,fun s hs => ?_⟩,hq3,?_⟩
   ·rw [hset]
    by_cases e:j=k'
    ·subst e; rw [if_pos rfl]; symm; exact decide_eq_true (by omega)
    ·rw [if_neg (fun h => e (by
      have a1:rkO l anc ((zan l).getD j 0)=2 * j + 1:=ciRk j hj
      have a2:=ciRk k' hk'
      rw [h] at a1; omega)),hck j hj]
     congr 1; apply propext; omega
   ·by_cases e:j=k' + 1
    ·subst e
     refine ⟨_,List.mem_cons_self ..,rfl,by rw [List.length_set]; exact hul,q1,fun s i' g1 g2 g3 => ?_,hub,fun s i' g1 g2 g3 => rfl⟩
     exact (q3 s fun i2 w1 w2 w3 => by
      have:=only s i' i2 g1 w1 g2 w3
      subst this; omega).symm
    ·obtain ⟨en,h1,h2,h3,h4,h5,h6,h7⟩:=hent j (by omega)
     refine ⟨en,List.mem_cons_of_mem _ h1,h2,h3,h4,fun s i' g1 g2 g3 => ?_,h6,fun s i' g1 g2 g3 => ?_⟩
     ·rw [h5 s i' g1 g2 g3,hkeep s i' g1 g2 (by omega)]
     ·rw [h7 s i' g1 g2 g3,hkeep s i' g1 g2 (by omega)]
   ·rw [q3 s fun i' g1 g2 => hs i' g1 (by omega)]
    exact hub s fun i' g1 g2 => hs i' g1 (by omega)
   ·have hm2:Mix l l.length listed u' tm t:=by
     refine ⟨hmix.1,fun s j hj hl hd => ?_,hmix.2.2⟩
     have hjl:=low j hj (hclo j hj hl) hk' (fun e => by rw [e,hun] at hl; cases hl)
     rw [hkeep s j hj hd hjl]
     exact hmix.2.1 s j hj hl hd
    refine hm2.step hi (by omega) hcd hdis hun (fun hlt => ?_) q1
    rw [q3 cd fun i2 w1 w2 w3 => by
     have:=only cd (ci k') i2 hi w1 hcd w3
     subst this
     rw [ciRk k' hk'] at w2; omega]
    exact List.getElem?_set_self (by omega)
  ·-- a calm operation
   have hrke:∃ j,rkO l anc i=2 * j:=by
    have:=evenOdd i
    rw [if_neg hcc] at this
    exact ⟨rkO l anc i / 2,by omega⟩
   obtain ⟨j,hj⟩:=hrke
   have hjk:j ≤ k:=by
    by_cases hkm:k=m
    ·have:=(hbd i hi).1
     omega
    ·have h1:=low i hi hanci (by omega) (fun e => by
      have:=ciRk k (by omega)
      rw [← e] at this; omega)
     omega
   obtain ⟨d,op,hso2,c1,c2⟩:=calmOf i hi j hj
   have hdi:zag l i=some d:=by rw [zal hi,hso2]
   obtain ⟨⟨L,b,x⟩,he1,rfl,he3,he4,he5,he6,he7⟩:=hent j hjk
   simp only at he3 he4 he5 he6 he7
   have hrun:=zcT hrc _ he1
   simp only at hrun
   obtain ⟨x',rfl,hxl,hxo,hseq⟩:=zcR _ _ _ _ (lvCalm j) (lvNd j) hrun
   have hp:(fun i => rkO l anc i == 2 * j) i=true:=by simpa using hj
   obtain ⟨B,hB1,_,_⟩:=zbJ (p:=fun i => rkO l anc i == 2 * j) l hi hp
   obtain ⟨ti,v,m1,m2,m3,m4⟩:=hseq _ _ _ (hB1 _ hp)
   have hA:∀ a,a ∈ zbP i (fun i => rkO l anc i == 2 * j) l ↔ ∃ j',j' < i ∧ rkO l anc j'=2 * j ∧ zaq l j'=a:=fun a => by
    rw [zaX]; simp
   have hlook:∀ s ∈ (zaq l i).looks,t[s]? = ti[s]?:=by
    intro s hs
    obtain ⟨w1,w2⟩:=agree listed u t i hi hun hanci hclo hmix s hs
    by_cases hjx:∃ j,j < l.length ∧ zag l j=some s
    ·obtain ⟨j',hj1,hj2⟩:=hjx
     rcases w1 with w1 | ⟨j2,g1,g2,g3,g4,g5⟩
     ·obtain ⟨_,q2,q3⟩:=w1 j' hj1 hj2
      have hji:=halt i (by omega) j' q2
      have hr:=hrk' i j' hi hj1 q2
      rw [q3]
      by_cases e:rkO l anc j'=2 * j
      ·rw [m2 s ⟨_,(hA _).2 ⟨j',hji,e,rfl⟩,by rw [← zal hj1]; exact hj2⟩]
       exact (he7 s j' hj1 hj2 e).symm
      ·rw [m3 s fun a ha e2 => by
        obtain ⟨j3,z1,z2,rfl⟩:=(hA a).1 ha
        have:=only s j' j3 hj1 (by omega) hj2 (by rw [zal (by omega)]; exact e2)
        subst this; exact e z2]
       exact (he5 s j' hj1 hj2 (by omega)).symm
     ·have hr:=hge i j2 hi g1 g3
      rw [g5]
      rw [m3 s fun a ha e2 => by
       obtain ⟨j3,z1,z2,rfl⟩:=(hA a).1 ha
       have:=only s j2 j3 g1 (by omega) g2 (by rw [zal (by omega)]; exact e2)
       subst this
       rcases g3 with rfl | g3
       ·omega
       ·have:=halt j3 (by omega) i g3
        omega]
      refine (he6 s fun i2 z1 z2 z3 => ?_).symm
      have:=only s j2 i2 g1 z1 g2 z3
      subst this; omega
    ·rw [w2 fun j g1 g2 => hjx ⟨j,g1,g2⟩]
     rw [m3 s fun a ha e2 => by
      obtain ⟨j3,z1,z2,rfl⟩:=(hA a).1 ha
      exact hjx ⟨j3,by omega,by rw [zal (by omega)]; exact e2⟩]
     exact (he6 s fun i2 z1 _ z3 => hjx ⟨i2,z1,z3⟩).symm
   have hev:=evOf i t ti hlook
   have hv:d < tm.length → u[d]? = some v:=fun hlt => by
    rw [← he7 d i hi hdi hj]
    exact m4 d (by rw [hso2]) (by omega)
   rw [hso2] at hev m1 ⊢
   rw [← zaP hev] at m1
   simp only [wpR,zaj]
   obtain ⟨y,g3,_,rfl⟩:=za6 c1 c2 m1
   refine g3 _ ⟨hclo',k,hist,u,hk,fun j' hj' => ?_,hrc,⟨hul,hent,hout⟩,hcont,hmix.step hi (by omega) hdi hdis hun hv hul⟩
   rw [hset,if_neg (fun e => hcc (by rw [← e]; exact (cMem j' hj').2))]
   exact hck j' hj'
 ·intro listed o t hall hT
  obtain ⟨hclo,k,hist,u,hk,hck,hrc,⟨hul,hent,hout⟩,hcont,hmix⟩:=hT
  have hkm:k=m:=by
   rcases Nat.lt_or_ge k m with h0 | h0
   ·have:=hck k h0
    rw [hall _ (cMem k h0).1] at this
    have:=of_decide_eq_true this.symm
    omega
   ·omega
  subst hkm
  have:t=u:=by
   refine List.ext_getElem? fun s => ?_
   by_cases hj:∃ j,j < l.length ∧ zag l j=some s
   ·obtain ⟨j,hj1,hj2⟩:=hj
    exact hmix.2.1 s j hj1 (hall j hj1) hj2
   ·rw [hmix.2.2 s fun j g1 _ g3 => hj ⟨j,g1,g3⟩,hout s fun j g1 _ g3 => hj ⟨j,g1,g3⟩]
  rw [this]
  exact ⟨hist,hcont⟩
def hsV (d:Nat) (p:AV) (h:Hst):Hst:=h.map fun e => (e.1,e.2.1.set d p,e.2.2.set d p)
theorem zcd {a b:List AV} {d s:Nat} {p:AV} (hl:a.length=b.length) (h:s ≠ d → a[s]? = b[s]?):(a.set d p)[s]? = (b.set d p)[s]?:=by
 by_cases e:s=d
 ·subst e; rw [List.getElem?_set,List.getElem?_set,hl,if_pos rfl,if_pos rfl]
 ·rw [List.getElem?_set_ne (fun h => e h.symm),List.getElem?_set_ne (fun h => e h.symm)]; exact h e
theorem tt_alloc {l:List SO} {anc:List (List Nat)} {m:Nat} {tm:List AV} {W0 W1:Nat → Hst → List OB → List AV → Prop} {listed:Array Bool} {o:List OB} {t:List AV} {d:Nat} {p:AV} {B:OB} (hd:∀ i,i < l.length → zag l i ≠ some d)
  (hW:∀ (k:Nat) (hist:Hst) (u:List AV),W0 k hist o u → zaL P (hsV d p hist) (o ++ [B]) ∧ W1 k (hsV d p hist) (o ++ [B]) (u.set d p)) (h:TTV P l anc m tm W0 listed o t):TTV P l anc m (tm.set d p) W1 listed (o ++ [B]) (t.set d p):=by
 obtain ⟨hclo,k,hist,u,hk,hck,hrc,⟨hul,hent,hout⟩,hw,hmix⟩:=h
 obtain ⟨h1,h2⟩:=hW k hist u hw
 refine ⟨hclo,k,hsV d p hist,u.set d p,hk,hck,h1,⟨by rw [List.length_set,List.length_set]; exact hul,fun j hj => ?_,fun s hs => zcd hul fun _ => hout s hs⟩,h2,?_⟩
 ·obtain ⟨e,he,q1,q2,q3,q4,q5,q6⟩:=hent j hj
  refine ⟨(e.1,e.2.1.set d p,e.2.2.set d p),List.mem_map.2 ⟨e,he,rfl⟩,q1,by rw [List.length_set,List.length_set]; exact q2,by rw [List.length_set,List.length_set]; exact q3,fun s i hi hds hr => ?_,fun s hs => zcd q2 fun _ => q5 s hs,fun s i hi hds hr => ?_⟩
  ·exact zcd (q2.trans hul.symm) fun _ => q4 s i hi hds hr
  ·exact zcd (q3.trans hul.symm) fun _ => q6 s i hi hds hr
 ·obtain ⟨m1,m2,m3⟩:=hmix
  exact ⟨by rw [List.length_set,List.length_set]; exact m1,fun s j hj hl hds => zcd (m1.trans hul.symm) fun _ => m2 s j hj hl hds,fun s hs => zcd m1 fun _ => m3 s hs⟩
section
variable (P)
def wpB (d:Nat) (T:TypeId) (z:List AV):List (List SO × SO) → Hst → List SO → List OB → List AV → (List OB → List AV → Prop) → Prop
 | [],hist,last,o,t,K => wpR P last o t fun _ u => zaL P (hsV d (.p o.length 0) ((last,t,u) :: hist)) (o ++ [.box T z]) ∧ K (o ++ [.box T z]) (u.set d (.p o.length 0))
 | (L,c) :: r,hist,last,o,t,K => wpR P L o t fun _ u =>
  (zaL P (hsV d (.p o.length 0) ((L,t,u) :: hist)) (o ++ [.box T z]) ∧ wpR P [c] (o ++ [.box T z]) (u.set d (.p o.length 0)) fun o' t' => zaL P (hsV d (.p o.length 0) ((L,t,u) :: hist)) o' ∧ wpT P r (hsV d (.p o.length 0) ((L,t,u) :: hist)) last o' t' K) ∧
  wpR P [c] o u fun o' t' => zaL P ((L,t,u) :: hist) o' ∧ wpB d T z r ((L,t,u) :: hist) last o' t' K
end
theorem zdN {l:List SO} {anc:List (List Nat)} (hok:zg6 l anc=true) (k:Nat):∀ so ∈ lvL l anc k,zb7 so=true:=by
 intro so hs
 unfold zg6 at hok
 simp only [Bool.and_eq_true] at hok
 obtain ⟨⟨⟨⟨⟨⟨⟨_,_⟩,hkd⟩,_⟩,_⟩,_⟩,_⟩,_⟩:=hok
 simp only [List.all_eq_true,List.mem_range,Bool.or_eq_true] at hkd
 obtain ⟨i,hi,hp,rfl⟩:=zaX.1 hs
 have hp:rkO l anc i=2 * k:=by simpa using hp
 have hn:¬ goB (zaq l i)=true:=fun h => by unfold rkO at hp; rw [if_pos h] at hp; omega
 rcases hkd i hi with h0 | h0
 ·exact absurd h0 hn
 ·exact h0
theorem zgB {l:List SO} {k:Nat} (hk:k < (zan l).length):goB (zaq l ((zan l).getD k 0))=true:=by
 have h0:(zan l).getD k 0 ∈ zan l:=by
  rw [List.getD_eq_getElem?_getD,List.getElem?_eq_getElem hk]
  exact List.getElem_mem _
 unfold zan at h0 ⊢
 rw [List.mem_filter,List.mem_range] at h0
 exact h0.2
theorem zaQ {so:SO} (h:goB so=true ∨ zb7 so=true) {o:List OB} {t:List AV} {F F':List OB → List AV → Prop} (hk:∀ o t,F o t → F' o t) (hw:wpR P [so] o t F):wpR P [so] o t F':=by
 rcases h with h | h
 ·obtain ⟨d,op,rfl,h1⟩:=zjf h
  simp only [wpR] at hw ⊢
  exact ze0 h1 (fun o v hq => hk _ _ hq) hw
 ·obtain ⟨d,op,rfl,c1,c2⟩:=zbN h
  simp only [wpR] at hw ⊢
  obtain ⟨v,h1,h2⟩:=za6 c1 c2 hw
  exact h1 _ (hk _ _ h2)
section
variable (P)
def W1V (l:List SO) (anc:List (List Nat)) (m:Nat) (Kf:List OB → List AV → Prop) (k:Nat) (hist:Hst) (o:List OB) (u:List AV):Prop :=
 if k=m then Kf o u else wpR P [zaq l ((zan l).getD k 0)] o u fun o' t' => zaL P hist o' ∧ wpT P (zay l anc (m - k - 1) (k + 1)) hist (lvL l anc m) o' t' Kf
def W0V (d:Nat) (T:TypeId) (z:List AV) (l:List SO) (anc:List (List Nat)) (m:Nat) (Kf:List OB → List AV → Prop) (k:Nat) (hist:Hst) (o:List OB) (u:List AV):Prop :=
 (zaL P (hsV d (.p o.length 0) hist) (o ++ [.box T z]) ∧ W1V P l anc m Kf k (hsV d (.p o.length 0) hist) (o ++ [.box T z]) (u.set d (.p o.length 0))) ∧
 (k < m → wpR P [zaq l ((zan l).getD k 0)] o u fun o' t' => zaL P hist o' ∧ wpB P d T z (zay l anc (m - k - 1) (k + 1)) hist (lvL l anc m) o' t' Kf)
end
theorem split1 {l:List SO} {anc:List (List Nat)} (hok:zg6 l anc=true) {m:Nat} {Kf:List OB → List AV → Prop} {k:Nat} (hk:k ≤ m) {hist:Hst} {o:List OB} {t:List AV} (h:wpT P (zay l anc (m - k) k) hist (lvL l anc m) o t Kf):∃ u,wpR P (lvL l anc k) o t (fun _ x => x=u) ∧ W1V P l anc m Kf k ((lvL l anc k,t,u) :: hist) o u:=by
 by_cases hkm:k=m
 ·subst hkm
  rw [Nat.sub_self] at h
  simp only [zay,wpT] at h
  obtain ⟨u,h1,h2⟩:=zbS _ _ _ _ (zdN hok k) h
  exact ⟨u,h2,by unfold W1V; rw [if_pos rfl]; exact h1⟩
 ·obtain ⟨r,hr⟩:∃ r,m - k=r + 1:=⟨m - k - 1,by omega⟩
  rw [hr] at h
  simp only [zay,wpT] at h
  obtain ⟨u,h1,h2⟩:=zbS _ _ _ _ (zdN hok k) h
  refine ⟨u,h2,?_⟩
  unfold W1V
  rw [if_neg hkm,hr,Nat.add_sub_cancel]
  exact h1
theorem split0 {d:Nat} {T:TypeId} {z:List AV} {l:List SO} {anc:List (List Nat)} (hok:zg6 l anc=true) {m:Nat} {Kf:List OB → List AV → Prop} {k:Nat} (hk:k ≤ m) {hist:Hst} {o:List OB} {t:List AV} (h:wpB P d T z (zay l anc (m - k) k) hist (lvL l anc m) o t Kf):∃ u,wpR P (lvL l anc k) o t (fun _ x => x=u) ∧ W0V P d T z l anc m Kf k ((lvL l anc k,t,u) :: hist) o u:=by
 by_cases hkm:k=m
 ·subst hkm
  rw [Nat.sub_self] at h
  simp only [zay,wpB] at h
  obtain ⟨u,h1,h2⟩:=zbS _ _ _ (fun _ u => zaL P (hsV d (.p o.length 0) ((lvL l anc k,t,u) :: hist)) (o ++ [.box T z]) ∧ Kf (o ++ [.box T z]) (u.set d (.p o.length 0))) (zdN hok k) h
  refine ⟨u,h2,⟨h1.1,?_⟩,fun h => absurd h (Nat.lt_irrefl _)⟩
  unfold W1V; rw [if_pos rfl]; exact h1.2
 ·obtain ⟨r,hr⟩:∃ r,m - k=r + 1:=⟨m - k - 1,by omega⟩
  rw [hr] at h
  simp only [zay,wpB] at h
  obtain ⟨u,h1,h2⟩:=zbS _ _ _ (fun _ u => (zaL P (hsV d (.p o.length 0) ((lvL l anc k,t,u) :: hist)) (o ++ [.box T z]) ∧ wpR P [zaq l ((zan l).getD k 0)] (o ++ [.box T z]) (u.set d (.p o.length 0)) fun o' t' => zaL P (hsV d (.p o.length 0) ((lvL l anc k,t,u) :: hist)) o' ∧ wpT P (zay l anc r (k + 1)) (hsV d (.p o.length 0) ((lvL l anc k,t,u) :: hist)) (lvL l anc m) o' t' Kf) ∧
   wpR P [zaq l ((zan l).getD k 0)] o u fun o' t' => zaL P ((lvL l anc k,t,u) :: hist) o' ∧ wpB P d T z (zay l anc r (k + 1)) ((lvL l anc k,t,u) :: hist) (lvL l anc m) o' t' Kf) (zdN hok k) h
  refine ⟨u,h2,⟨h1.1.1,?_⟩,fun _ => ?_⟩
  ·unfold W1V
   rw [if_neg hkm,hr,Nat.add_sub_cancel]
   exact h1.1.2
  ·rw [hr,Nat.add_sub_cancel]
   exact h1.2
theorem step1 {l:List SO} {anc:List (List Nat)} (hok:zg6 l anc=true) {m:Nat} (hmm:(zan l).length=m) {Kf:List OB → List AV → Prop} (k:Nat) (hist:Hst) (o:List OB) (u:List AV) (hk:k < m) (h:W1V P l anc m Kf k hist o u):wpR P [zaq l ((zan l).getD k 0)] o u (fun o' t' => zaL P hist o' ∧ ∃ u',wpR P (lvL l anc (k + 1)) o' t' (fun _ x => x=u') ∧ W1V P l anc m Kf (k + 1) ((lvL l anc (k + 1),t',u') :: hist) o' u'):=by
 unfold W1V at h
 rw [if_neg (by omega)] at h
 refine zaQ (.inl (zgB (by omega))) (fun o' t' hq => ⟨hq.1,split1 hok (by omega) (by rw [show m - (k + 1)=m - k - 1 by omega]; exact hq.2)⟩) h
theorem step0 {d:Nat} {T:TypeId} {z:List AV} {l:List SO} {anc:List (List Nat)} (hok:zg6 l anc=true) {m:Nat} (hmm:(zan l).length=m) {Kf:List OB → List AV → Prop} (k:Nat) (hist:Hst) (o:List OB) (u:List AV) (hk:k < m) (h:W0V P d T z l anc m Kf k hist o u):wpR P [zaq l ((zan l).getD k 0)] o u (fun o' t' => zaL P hist o' ∧ ∃ u',wpR P (lvL l anc (k + 1)) o' t' (fun _ x => x=u') ∧ W0V P d T z l anc m Kf (k + 1) ((lvL l anc (k + 1),t',u') :: hist) o' u') :=
 zaQ (.inl (zgB (by omega))) (fun o' t' hq => ⟨hq.1,split0 hok (by omega) (by rw [show m - (k + 1)=m - k - 1 by omega]; exact hq.2)⟩) (h.2 hk)
end
def dumS:SO:=⟨some 1000003,.mv (.c .nil),none⟩
def l0V (l:List SO) (al:Nat):List SO:=(l.take (l.length - 1)).set al dumS
def alIs (so:SO):Option (Nat × TypeId × List AV):=match so with
 | ⟨some d,.alloc T z,none⟩ => some (d,T,z)
 | _ => none
def stIs (so:SO):Bool:=match so with
 | ⟨none,.store _ (.t _) (.t _),none⟩ => true
 | _ => false
def craOk (l:List SO) (deps anc:List (List Nat)) (al d:Nat):Bool :=
 (List.range l.length).all (fun i => (deps.getD i []).all (fun e => decide (e < i)) && (anc.getD i []).all fun j => (deps.getD i []).contains j || (deps.getD i []).any fun e => (anc.getD e []).contains j) &&
 decide (al + 1 < l.length) && stIs (zaq l (l.length - 1)) && (List.range (l.length - 1)).all (fun j => zb9 anc (l.length - 1) j) &&
 (List.range (l.length - 1)).all (fun i => i == al || (zag l i != some d)) && (anc.getD al []).isEmpty &&
 zg6 (l0V l al) anc && decide (d < 1000003)
theorem l0V_len (l:List SO) (al:Nat):(l0V l al).length=l.length - 1:=by unfold l0V; rw [List.length_set,List.length_take]; omega
theorem zfN {l:List SO} {al i:Nat} (hi:i < l.length - 1) (hne:i ≠ al):zaq (l0V l al) i=zaq l i:=by
 unfold zaq l0V
 rw [List.getElem?_set_ne (fun e => hne e.symm),List.getElem?_take_of_lt hi]
theorem l0V_al {l:List SO} {al:Nat} (hi:al < l.length - 1):zaq (l0V l al) al=dumS:=by
 unfold zaq l0V
 rw [List.getElem?_set_self (by rw [List.length_take]; omega)]; rfl
section
variable {P:Program} [Tabs P] {C:Cx} [On P C] {K:zas}
theorem cra_ok (id:Nat) (ops:Array Oper) (l:List SO) (hl:ops.toList.mapM (trO P ops.toList)=some l) (al d:Nat) (T:TypeId) (z:List AV) (hal:alIs (zaq l al)=some (d,T,z)) (hok:craOk l (ops.toList.map zah) (za5 (ops.toList.map zah)) al d=true) (hm:P.follows .mixedOrders=true) {objs:List OB} {tm:List AV} (htl:tm.length ≤ 1000003)
  (h:wpB P d T z (zay (l0V l al) (za5 (ops.toList.map zah)) (zan (l0V l al)).length 0) [] (lvL (l0V l al) (za5 (ops.toList.map zah)) (zan (l0V l al)).length) objs tm fun o t => wpR P [zaq l (l.length - 1)] o t fun o t => K .normal o t):∀ a w,Rel C objs tm a w → (Code.region id ops true).wp P (zcx C K) a w:=by
 have hnl:ops.size=l.length:=by
  have:=(zbc _ _ _ hl).1
  simpa using this
 unfold craOk at hok
 simp only [Bool.and_eq_true] at hok
 obtain ⟨⟨⟨⟨⟨⟨⟨hd1,halt⟩,hst⟩,hlast⟩,hdd⟩,hae⟩,htv⟩,hdlt⟩:=hok
 have hdlt:d < 1000003:=of_decide_eq_true hdlt
 have halt:al + 1 < l.length:=of_decide_eq_true halt
 have hpre:zaV l (ops.toList.map zah) (za5 (ops.toList.map zah)) 0=true:=by
  unfold zaV
  simp only [Bool.and_eq_true]
  exact ⟨⟨⟨⟨⟨⟨by simp,hd1⟩,by simp⟩,by simp⟩,by simp⟩,by simp⟩,by simp [zcP]⟩
 have hap0:∀ an,zaS l an 0=[]:=fun an => by simp [zaS]
 simp only [List.all_eq_true,List.mem_range,Bool.or_eq_true,bne_iff_ne,ne_eq,beq_iff_eq] at hlast hdd
 have hfin:=zbF (P:=P) (C:=C) (K:=K) id ops l l hl (.inl rfl) 0 hpre hm (objs:=objs) (tm:=tm)
 generalize za5 (ops.toList.map zah)=anc at *
 clear hd1 hpre
 have hso:zaq l al=⟨some d,.alloc T z,none⟩:=by
  generalize zaq l al=so at hal
  unfold alIs at hal
  split at hal
  ·injection hal with hal; injection hal with h1 h2; injection h2 with h2 h3; subst h1 h2 h3; rfl
  ·cases hal
 obtain ⟨s1,e,u0,hstore⟩:∃ s1 e u0,zaq l (l.length - 1)=⟨none,.store s1 (.t e) (.t u0),none⟩:=by
  generalize zaq l (l.length - 1)=so at hst
  unfold stIs at hst
  split at hst
  ·exact ⟨_,_,_,rfl⟩
  ·cases hst
 have hn0:=l0V_len l al
 have hd0:∀ i,i < (l0V l al).length → zag (l0V l al) i ≠ some d ∨ i=al:=by
  intro i hi
  by_cases e:i=al
  ·exact .inr e
  ·left
   rw [zal hi,zfN (by omega) e,← zal (by omega)]
   rcases hdd i (by omega) with h0 | h0
   ·exact absurd h0 e
   ·exact h0
 generalize hM:(zan (l0V l al)).length=m at *
 let Kf:List OB → List AV → Prop:=fun o t => wpR P [zaq l (l.length - 1)] o t fun o t => K .normal o t
 have hcore0:=zeL (P:=P) (l0V l al) anc htv m hM tm (W0V P d T z (l0V l al) anc m Kf) (fun k hist o u hk hw => step0 htv hM k hist o u hk hw)
 have hcore1:=fun q => zeL (P:=P) (l0V l al) anc htv m hM (tm.set d q) (W1V P (l0V l al) anc m Kf) (fun k hist o u hk hw => step1 htv hM k hist o u hk hw)
 let TF:Array Bool → List OB → List AV → Prop:=fun listed o t =>
  (listed.getD (l.length - 1) false=false ∧ ((listed.getD al false=false ∧ TTV P (l0V l al) anc m tm (W0V P d T z (l0V l al) anc m Kf) listed o t) ∨ (listed.getD al false=true ∧ ∃ q,TTV P (l0V l al) anc m (tm.set d q) (W1V P (l0V l al) anc m Kf) listed o t))) ∨
  ((∀ j,j < l.length → listed.getD j false=true) ∧ K .normal o t)
 refine hfin TF (fun o t => o=objs ∧ t=tm) ?_ ?_ ?_ ?_
 ·rintro listed o t hs _ h2 ⟨rfl,rfl⟩
  have hall:∀ j,j < l.length → listed.getD j false=false:=fun j hj => h2 j (Nat.zero_le _) (by omega)
  obtain ⟨u,q1,q2⟩:=split0 (d:=d) (T:=T) (z:=z) htv (Kf:=Kf) (Nat.zero_le m) h
  exact .inl ⟨hall _ (by omega),.inl ⟨hall _ (by omega),hcore0.1 o u q1 q2 listed fun j hj => hall j (by omega)⟩⟩
 ·intro listed o t i so hs hso2 _ hin hun hanci hT
  obtain rfl:=zcC hso2
  have hset:∀ j,(listed.setIfInBounds i true).getD j false=if j=i then true else listed.getD j false:=fun j => zaR listed i j false (by omega)
  rcases hT with ⟨hT1,hT2⟩ | ⟨hT1,_⟩
  rotate_left
  ·have:=hT1 i (by omega); rw [hun] at this; cases this
  by_cases hil:i=l.length - 1
  ·-- the last one
   subst hil
   have hall:∀ j,j < l.length - 1 → listed.getD j false=true:=fun j hj => hanci j (by
    have:=hlast j hj
    unfold zb9 at this
    exact List.contains_iff_mem.1 this)
   rcases hT2 with ⟨ha,_⟩ | ⟨_,q,hT2⟩
   ·rw [hall al (by omega)] at ha; cases ha
   obtain ⟨hist,hw⟩:=(hcore1 q).2.2 listed o t (fun j hj => hall j (by omega)) hT2
   unfold W1V at hw
   rw [if_pos rfl] at hw
   have hw2:wpR P [zaq l (l.length - 1)] o t (fun o t => K .normal o t):=hw
   rw [hstore] at hw2 ⊢
   refine zbx (d:=0) (x:=0) (y:=0) (v:=0) (fun o2 t2 hk => ?_) (.inr ⟨_,_,_,rfl⟩) hw2
   refine .inr ⟨fun j hj => ?_,hk⟩
   rw [hset]
   by_cases e:j=l.length - 1
   ·rw [if_pos e]
   ·rw [if_neg e]; exact hall j (by omega)
  have hin2:i < l.length - 1:=by omega
  have hlst:(listed.setIfInBounds i true).getD (l.length - 1) false=false:=by rw [hset,if_neg (fun e => hil e.symm)]; exact hT1
  by_cases hia:i=al
  ·-- the allocation
   subst hia
   rcases hT2 with ⟨_,hT2⟩ | ⟨ha,_⟩
   rotate_left
   ·rw [hun] at ha; cases ha
   rw [hso]
   simp only [wpR,wpS,zaj]
   have h1:=hcore0.2.1 listed o t i (by omega) (by omega) hun hanci hT2
   rw [l0V_al (by omega)] at h1
   have h2:TTV P (l0V l i) anc m tm (W0V P d T z (l0V l i) anc m Kf) (listed.setIfInBounds i true) o (t.set 1000003 .nil):=h1
   have htlen:t.length=tm.length:=by
    obtain ⟨_,k,hist,u,_,_,_,_,_,hmix⟩:=hT2
    exact hmix.1
   rw [List.set_eq_of_length_le (by omega)] at h2
   have h3:=tt_alloc (W1:=W1V P (l0V l i) anc m Kf) (d:=d) (p:=.p o.length 0) (B:=.box T z) (fun j hj => by
    rcases hd0 j hj with h0 | h0
    ·exact h0
    ·subst h0
     rw [zal hj,l0V_al (by omega)]
     unfold dumS
     intro e
     have e:(1000003:Nat)=d:=by injection e
     omega) (fun k hist u hw => hw.1) h2
   exact .inl ⟨hlst,.inr ⟨by rw [hset,if_pos rfl],_,h3⟩⟩
  have hki:goB (zaq l i)=true ∨ zb7 (zaq l i)=true:=by
   have h0:=htv
   unfold zg6 at h0
   simp only [Bool.and_eq_true] at h0
   obtain ⟨⟨⟨⟨⟨⟨⟨_,_⟩,hkd⟩,_⟩,_⟩,_⟩,_⟩,_⟩:=h0
   simp only [List.all_eq_true,List.mem_range,Bool.or_eq_true] at hkd
   have:=hkd i (by omega)
   rwa [zfN hin2 hia] at this
  rcases hT2 with ⟨ha,hT2⟩ | ⟨ha,q,hT2⟩
  ·have h1:=hcore0.2.1 listed o t i (by omega) (by omega) hun hanci hT2
   rw [zfN hin2 hia] at h1
   exact zaQ hki (fun o2 t2 hk => .inl ⟨hlst,.inl ⟨by rw [hset,if_neg (fun e => hia e.symm)]; exact ha,hk⟩⟩) h1
  ·have h1:=(hcore1 q).2.1 listed o t i (by omega) (by omega) hun hanci hT2
   rw [zfN hin2 hia] at h1
   exact zaQ hki (fun o2 t2 hk => .inl ⟨hlst,.inr ⟨by rw [hset,if_neg (fun e => hia e.symm)]; exact ha,q,hk⟩⟩) h1
 ·intro listed o t hs hall hT
  rcases hT with ⟨h0,_⟩ | ⟨_,hk⟩
  ·rw [hall _ (by omega)] at h0; cases h0
  ·exact hk
 ·simp only [List.take_zero,wpD,hap0,zcH,and_self]
def l1V (l:List SO):List SO:=l.take (l.length - 1)
theorem l1V_len (l:List SO):(l1V l).length=l.length - 1:=by unfold l1V; rw [List.length_take]; omega
theorem l1V_at {l:List SO} {i:Nat} (hi:i < l.length - 1):zaq (l1V l) i=zaq l i:=by
 unfold zaq l1V
 rw [List.getElem?_take_of_lt hi]
def crtOk (l:List SO) (deps anc:List (List Nat)):Bool :=
 (List.range l.length).all (fun i => (deps.getD i []).all (fun e => decide (e < i)) && (anc.getD i []).all fun j => (deps.getD i []).contains j || (deps.getD i []).any fun e => (anc.getD e []).contains j) &&
 decide (0 < l.length) && stIs (zaq l (l.length - 1)) && (List.range (l.length - 1)).all (fun j => zb9 anc (l.length - 1) j) && zg6 (l1V l) anc
def crtC (l:List SO) (an:List (List Nat)):List (List SO × SO) × List SO:=(zay (l1V l) an (zan (l1V l)).length 0,lvL (l1V l) an (zan (l1V l)).length ++ [zaq l (l.length - 1)])
section
variable {P:Program} [Tabs P]
theorem zeJ:∀ (l x:List SO) (o:List OB) (t:List AV) (F:List OB → List AV → Prop),wpR P (l ++ x) o t F=wpR P l o t fun o t => wpR P x o t F
 | [],x,o,t,F => rfl
 | ⟨d,op,none⟩ :: l,x,o,t,F => by simp only [List.cons_append,wpR,zeJ l x]
 | ⟨d,op,some (g,w)⟩ :: l,x,o,t,F => by simp only [List.cons_append,wpR,zeJ l x]
theorem zhg:∀ (st:List (List SO × SO)) (h:Hst) (l x:List SO) (o:List OB) (t:List AV) (F:List OB → List AV → Prop),wpT P st h (l ++ x) o t F=wpT P st h l o t fun o t => wpR P x o t F
 | [],h,l,x,o,t,F => by simp only [wpT,zeJ]
 | (L,c) :: st,h,l,x,o,t,F => by simp only [wpT,zhg st _ l x]
end
theorem crt_ok (id:Nat) (ops:Array Oper) (l:List SO) (hl:ops.toList.mapM (trO P ops.toList)=some l) (hok:crtOk l (ops.toList.map zah) (za5 (ops.toList.map zah))=true) (hm:P.follows .mixedOrders=true) {objs:List OB} {tm:List AV}
  (h0:wpT P (crtC l (za5 (ops.toList.map zah))).1 [] (crtC l (za5 (ops.toList.map zah))).2 objs tm fun o t => K .normal o t):∀ a w,Rel C objs tm a w → (Code.region id ops true).wp P (zcx C K) a w:=by
 have hnl:ops.size=l.length:=by
  have:=(zbc _ _ _ hl).1
  simpa using this
 have h:wpT P (zay (l1V l) (za5 (ops.toList.map zah)) (zan (l1V l)).length 0) [] (lvL (l1V l) (za5 (ops.toList.map zah)) (zan (l1V l)).length) objs tm fun o t => wpR P [zaq l (l.length - 1)] o t fun o t => K .normal o t:=by
  unfold crtC at h0
  dsimp only at h0
  rw [zhg] at h0
  exact h0
 clear h0
 unfold crtOk at hok
 simp only [Bool.and_eq_true] at hok
 obtain ⟨⟨⟨⟨hd1,hlt⟩,hst⟩,hlast⟩,htv⟩:=hok
 have hlt:0 < l.length:=of_decide_eq_true hlt
 have hpre:zaV l (ops.toList.map zah) (za5 (ops.toList.map zah)) 0=true:=by
  unfold zaV
  simp only [Bool.and_eq_true]
  exact ⟨⟨⟨⟨⟨⟨by simp,hd1⟩,by simp⟩,by simp⟩,by simp⟩,by simp⟩,by simp [zcP]⟩
 have hap0:∀ an,zaS l an 0=[]:=fun an => by simp [zaS]
 simp only [List.all_eq_true,List.mem_range] at hlast
 have hfin:=zbF (P:=P) (C:=C) (K:=K) id ops l l hl (.inl rfl) 0 hpre hm (objs:=objs) (tm:=tm)
 generalize za5 (ops.toList.map zah)=anc at *
 clear hd1 hpre
 obtain ⟨s1,e,u0,hstore⟩:∃ s1 e u0,zaq l (l.length - 1)=⟨none,.store s1 (.t e) (.t u0),none⟩:=by
  generalize zaq l (l.length - 1)=so at hst
  unfold stIs at hst
  split at hst
  ·exact ⟨_,_,_,rfl⟩
  ·cases hst
 have hn0:=l1V_len l
 generalize hM:(zan (l1V l)).length=m at *
 let Kf:List OB → List AV → Prop:=fun o t => wpR P [zaq l (l.length - 1)] o t fun o t => K .normal o t
 have hcore:=zeL (P:=P) (l1V l) anc htv m hM tm (W1V P (l1V l) anc m Kf) (fun k hist o u hk hw => step1 htv hM k hist o u hk hw)
 let TF:Array Bool → List OB → List AV → Prop:=fun listed o t =>
  (listed.getD (l.length - 1) false=false ∧ TTV P (l1V l) anc m tm (W1V P (l1V l) anc m Kf) listed o t) ∨
  ((∀ j,j < l.length → listed.getD j false=true) ∧ K .normal o t)
 refine hfin TF (fun o t => o=objs ∧ t=tm) ?_ ?_ ?_ ?_
 ·rintro listed o t hs _ h2 ⟨rfl,rfl⟩
  have hall:∀ j,j < l.length → listed.getD j false=false:=fun j hj => h2 j (Nat.zero_le _) (by omega)
  obtain ⟨u,q1,q2⟩:=split1 htv (Kf:=Kf) (Nat.zero_le m) h
  exact .inl ⟨hall _ (by omega),hcore.1 o u q1 q2 listed fun j hj => hall j (by omega)⟩
 ·intro listed o t i so hs hso2 _ hin hun hanci hT
  obtain rfl:=zcC hso2
  have hset:∀ j,(listed.setIfInBounds i true).getD j false=if j=i then true else listed.getD j false:=fun j => zaR listed i j false (by omega)
  rcases hT with ⟨hT1,hT2⟩ | ⟨hT1,_⟩
  rotate_left
  ·have:=hT1 i (by omega); rw [hun] at this; cases this
  by_cases hil:i=l.length - 1
  ·-- the last one
   subst hil
   have hall:∀ j,j < l.length - 1 → listed.getD j false=true:=fun j hj => hanci j (by
    have:=hlast j hj
    unfold zb9 at this
    exact List.contains_iff_mem.1 this)
   obtain ⟨hist,hw⟩:=hcore.2.2 listed o t (fun j hj => hall j (by omega)) hT2
   unfold W1V at hw
   rw [if_pos rfl] at hw
   have hw2:wpR P [zaq l (l.length - 1)] o t (fun o t => K .normal o t):=hw
   rw [hstore] at hw2 ⊢
   refine zbx (d:=0) (x:=0) (y:=0) (v:=0) (fun o2 t2 hk => ?_) (.inr ⟨_,_,_,rfl⟩) hw2
   refine .inr ⟨fun j hj => ?_,hk⟩
   rw [hset]
   by_cases e:j=l.length - 1
   ·rw [if_pos e]
   ·rw [if_neg e]; exact hall j (by omega)
  have hin2:i < l.length - 1:=by omega
  have hlst:(listed.setIfInBounds i true).getD (l.length - 1) false=false:=by rw [hset,if_neg (fun e => hil e.symm)]; exact hT1
  have hki:goB (zaq l i)=true ∨ zb7 (zaq l i)=true:=by
   have h0:=htv
   unfold zg6 at h0
   simp only [Bool.and_eq_true] at h0
   obtain ⟨⟨⟨⟨⟨⟨⟨_,_⟩,hkd⟩,_⟩,_⟩,_⟩,_⟩,_⟩:=h0
   simp only [List.all_eq_true,List.mem_range,Bool.or_eq_true] at hkd
   have:=hkd i (by omega)
   rwa [l1V_at hin2] at this
  have h1:=hcore.2.1 listed o t i (by omega) (by omega) hun hanci hT2
  rw [l1V_at hin2] at h1
  exact zaQ hki (fun o2 t2 hk => .inl ⟨hlst,hk⟩) h1
 ·intro listed o t hs hall hT
  rcases hT with ⟨h0,_⟩ | ⟨_,hk⟩
  ·rw [hall _ (by omega)] at h0; cases h0
  ·exact hk
 ·simp only [List.take_zero,wpD,hap0,zcH,and_self]
end
section
variable {P:Program} [Tabs P] {C:Cx} [On P C] {K:zas}
inductive SCode where
 | skip
 | reg (l:List SO)
 | drw (l:List SO) (k:Nat) (ap:List (Nat × Nat × Option (Nat × Bool)))
 | crg (pre:List SO) (cl:SO) (post:List SO)
 | crs (st:List (List SO × SO)) (last:List SO)
 | cra (d:Nat) (T:TypeId) (z:List AV) (st:List (List SO × SO)) (last:List SO) (sr:SO)
 | seq (x y:SCode)
 | cond (c:SV) (x y:SCode)
 | blk (id:Nat) (c:SCode)
 | loop (c:SCode)
 | exit (id:Nat)
 | ret
 | dead
def zin (l:List SO):Bool :=
 match l.getLast? with
 | some ⟨_,.call _ args,none⟩ => args.any fun
  | .t s => (l.any fun o => match o with
   | ⟨some d,.fad _ _,_⟩ => d == s
   | _ => false) || l.all fun o => !(o.dst == some s)
  | _ => false
 | _ => false
def lastApp (l:List SO):Bool :=
 match l.reverse with
 | ⟨_,.mv (.t d),none⟩ :: ⟨some d',.call _ args,none⟩ :: _ => d == d' && args.any fun
  | .t s => l.any fun o => match o with
   | ⟨some e,.app _ _ _ _ _,_⟩ => e == s
   | _ => false
  | _ => false
 | _ => false
def panics (ops:List Oper):Bool:=ops.any fun o => match o.op with
 | .panic _ => true
 | _ => false
def cutApp (l:List SO):Bool:=l.any fun o => match o with
 | ⟨some d,.trn _ _ _,none⟩ => appTo l d
 | _ => false
def cands (l:List SO):List (List SO × Nat) :=
 (if lastApp l=true then [(l,l.length - 2)] else []) ++ (if zin l=true then [(l,l.length - 1)] else []) ++ [(l,tailAt l),(l,l.length)] ++ ((if zin l=true then [(l.map SO.toQ,l.length - 1)] else []) ++ [(l.map SO.toQ,tailAt l),(l.map SO.toQ,l.length)] ++ ((if cutApp l=true then [(l.map SO.toR,l.length)] else []) ++ [(l.map SO.toP,l.length)]))
def pickD (l:List SO) (ds an:List (List Nat)):Option (List SO × Nat):=(cands l).find? fun c => zgx c.1 ds an c.2
theorem pickD_ok {l:List SO} {ds an:List (List Nat)} {c:List SO × Nat} (h:pickD l ds an=some c):(c.1=l ∨ c.1=l.map SO.toP ∨ c.1=l.map SO.toQ ∨ c.1=l.map SO.toR) ∧ zgx c.1 ds an c.2=true:=by
 refine ⟨?_,by simpa using List.find?_some h⟩
 have hm:=List.mem_of_find?_eq_some h
 unfold cands at hm
 simp only [List.mem_append,List.mem_cons,List.not_mem_nil,or_false] at hm
 rcases hm with ((hm | hm) | rfl | rfl) | (hm | rfl | rfl) | hm | rfl
 ·split at hm
  ·simp only [List.mem_cons,List.not_mem_nil,or_false] at hm; subst hm; exact .inl rfl
  ·simp at hm
 ·split at hm
  ·simp only [List.mem_cons,List.not_mem_nil,or_false] at hm; subst hm; exact .inl rfl
  ·simp at hm
 ·exact .inl rfl
 ·exact .inl rfl
 ·split at hm
  ·simp only [List.mem_cons,List.not_mem_nil,or_false] at hm; subst hm; exact .inr (.inr (.inl rfl))
  ·simp at hm
 ·exact .inr (.inr (.inl rfl))
 ·exact .inr (.inr (.inl rfl))
 ·split at hm
  ·simp only [List.mem_cons,List.not_mem_nil,or_false] at hm; subst hm; exact .inr (.inr (.inr rfl))
  ·simp at hm
 ·exact .inr (.inl rfl)
def pickF (l:List SO) (ds an:List (List Nat)):Option (List SO × Nat × List (Nat × Nat × Option (Nat × Bool))):=(List.range l.length).findSome? fun k => if zgd l ds an k=true then (zjj l k).map fun p => (l,l.length,[(p.1,p.2 + 1000000,none)]) else none
def pickA (l:List SO) (ds an:List (List Nat)):Option (List SO × Nat × List (Nat × Nat × Option (Nat × Bool))):=match pickD l ds an with
 | some c => some (c.1,c.2,zaS c.1 an c.2)
 | none => pickF l ds an
theorem pickA_ok {l:List SO} {ds an:List (List Nat)} {r:List SO × Nat × List (Nat × Nat × Option (Nat × Bool))} (h:pickA l ds an=some r):(∃ c,pickD l ds an=some c ∧ r=(c.1,c.2,zaS c.1 an c.2)) ∨ (∃ k d e,zgd l ds an k=true ∧ zjj l k=some (d,e) ∧ r=(l,l.length,[(d,e + 1000000,none)])):=by
 unfold pickA at h
 split at h
 ·rename_i c hc
  injection h with h; exact .inl ⟨c,hc,h.symm⟩
 ·unfold pickF at h
  obtain ⟨k,_,hk⟩:=List.exists_of_findSome?_eq_some h
  split at hk
  ·rename_i hok
   obtain ⟨p,hp,rfl⟩:=Option.map_eq_some_iff.1 hk
   exact .inr ⟨k,p.1,p.2,hok,hp,rfl⟩
  ·cases hk
def ptrCall (P:Program) (ops:Array Oper) (l:List SO) (c:Nat):Bool:=(match ops[c]? with
 | some o => match o.op with
  | .call x => match x.argTypes[0]? with
   | some t => match P.underlying t with
    | some (.pointer _) => true
    | _ => false
   | _ => false
  | _ => false
 | none => false) && l.any fun o => match o.op with
  | .app .. => true
  | _ => false
def pickC (P:Program) (ops:Array Oper) (l:List SO) (ds an:List (List Nat)):Option Nat:=(List.range l.length).find? fun c => ptrCall P ops l c && crgOk l ds an c
theorem pickC_ok {P:Program} {ops:Array Oper} {l:List SO} {ds an:List (List Nat)} {c:Nat} (h:pickC P ops l ds an=some c):crgOk l ds an c=true:=by
 have:=List.find?_some h
 simp only [Bool.and_eq_true] at this
 exact this.2
def mapCalls (P:Program) (ops:Array Oper) (l:List SO):Bool:=decide (2 ≤ (zan l).length) && (zan l).all fun c => match ops[c]? with
 | some o => match P.underlying o.type with
  | some (.map _ _) => true
  | _ => false
 | none => false
def zje (P:Program) (ops:Array Oper) (l:List SO):Bool:=(l.any fun o => o.op.grows) && (List.range l.length).any fun i => (zaq l i).op.isCall && match ops[i]? with
  | some o => match o.op with
   | .call x => match x.argTypes[0]? with
    | some t => match P.underlying t with
     | some (.pointer _) => true
     | _ => false
    | _ => false
   | _ => false
  | none => false
def dieCalls (l:List SO):Bool:=decide (2 ≤ (l.filter fun o => match o.op with
 | .call _ [.t _,.c (.i _ _)] => true
 | _ => false).length)
def badP (P:Program) (ops:Array Oper) (l:List SO):Bool:=(List.range l.length).any fun i => (match (zaq l i).op with
 | .pcall .. => true
 | _ => false) && match ops[i]? with
  | some o => match o.op with
   | .call x => match x.argTypes[0]? with
    | some t => match P.underlying t with
     | some (.pointer _) => true
     | _ => false
    | _ => false
   | _ => false
  | none => false
def zc6 (l:List SO) (ds an:List (List Nat)):Option (Nat × Nat × TypeId × List AV):=(List.range l.length).findSome? fun al => match alIs (zaq l al) with
 | some r => if craOk l ds an al r.1=true then some (al,r) else none
 | none => none
theorem zgY {l:List SO} {ds an:List (List Nat)} {r:Nat × Nat × TypeId × List AV} (h:zc6 l ds an=some r):alIs (zaq l r.1)=some (r.2.1,r.2.2.1,r.2.2.2) ∧ craOk l ds an r.1 r.2.1=true:=by
 unfold zc6 at h
 obtain ⟨al,_,hk⟩:=List.exists_of_findSome?_eq_some h
 split at hk
 ·rename_i q hq
  split at hk
  ·rename_i hok
   injection hk with hk; subst hk
   exact ⟨hq,hok⟩
  ·cases hk
 ·cases hk
def craC (l:List SO) (an:List (List Nat)) (r:Nat × Nat × TypeId × List AV):SCode:=.cra r.2.1 r.2.2.1 r.2.2.2 (zay (l0V l r.1) an (zan (l0V l r.1)).length 0) (lvL (l0V l r.1) an (zan (l0V l r.1)).length) (zaq l (l.length - 1))
def pickZ (P:Program) (ops:Array Oper) (l:List SO) (ds an:List (List Nat)):Option SCode:=if (dieCalls l && crtOk l ds an)=true then some (.crs (crtC l an).1 (crtC l an).2) else match pickA l ds an with
 | some c => if badP P ops c.1=true then (match zc6 l ds an with
  | some r => some (craC l an r)
  | none => some (.drw c.1 c.2.1 c.2.2)) else some (.drw c.1 c.2.1 c.2.2)
 | none => (zc6 l ds an).map (craC l an)
theorem zfD {P:Program} {ops:Array Oper} {l:List SO} {ds an:List (List Nat)} {sc:SCode} (h:pickZ P ops l ds an=some sc):(∃ c,pickA l ds an=some c ∧ sc=.drw c.1 c.2.1 c.2.2) ∨ (∃ r,zc6 l ds an=some r ∧ sc=craC l an r) ∨ crtOk l ds an=true ∧ sc=.crs (crtC l an).1 (crtC l an).2:=by
 unfold pickZ at h
 split at h
 ·rename_i hd
  injection h with h
  rw [Bool.and_eq_true] at hd
  exact .inr (.inr ⟨hd.2,h.symm⟩)
 split at h
 ·rename_i c hc
  split at h
  ·split at h
   ·rename_i r hr
    injection h with h; exact .inr (.inl ⟨r,hr,h.symm⟩)
   ·injection h with h; exact .inl ⟨c,hc,h.symm⟩
  ·injection h with h; exact .inl ⟨c,hc,h.symm⟩
 ·obtain ⟨r,hr,rfl⟩:=Option.map_eq_some_iff.1 h
  exact .inr (.inl ⟨r,hr,rfl⟩)
def trC (P:Program):Code → Option SCode
 | .skip => some .skip
 | .region _ ops false => match ops.toList.mapM (trO P ops.toList) with
  | some l => some (.reg l)
  | none => if panics ops.toList=true then some .dead else none
 | .region _ ops true => match ops.toList.mapM (trO P ops.toList) with
  | some l => if P.follows .mixedOrders=true then (match pickC P ops l (ops.toList.map zah) (za5 (ops.toList.map zah)) with
   | some c => some (.crg (zbP l.length (zcw (za5 (ops.toList.map zah)) c) l) (zaq l c) (zbP l.length (zaI (za5 (ops.toList.map zah)) c) l))
   | none => if (mapCalls P ops l || zje P ops l) && crsOk l (ops.toList.map zah) (za5 (ops.toList.map zah)) then some (.crs (zay l (za5 (ops.toList.map zah)) (zan l).length 0) (lvL l (za5 (ops.toList.map zah)) (zan l).length)) else pickZ P ops l (ops.toList.map zah) (za5 (ops.toList.map zah))) else none
  | none => none
 | .seq x y => match trC P x,trC P y with
  | some a,some b => some (.seq a b)
  | _,_ => none
 | .cond c x y => match trC P x,trC P y with
  | some a,some b => some (.cond (zaf c) a b)
  | _,_ => none
 | .block id c => (trC P c).map (.blk id)
 | .loop c => (trC P c).map .loop
 | .exit id => some (.exit id)
 | .ret => some .ret
 | .scope c => trC P c
 | .label _ => some .skip
 | _ => none
def ngK (K:zas):zas
 | .goto _,_,_ => False
 | e,objs,tm => K e objs tm
omit [Tabs P] [On P C] in
theorem WP.scope {c:Code} {K:zas} {objs:List OB} {tm:List AV} (hh:WP P C c (ngK K) objs tm):WP P C (.scope c) (ngK K) objs tm:=by
 intro a w hr
 refine wp_scope_straight (wp_mono (hh a w hr) ?_)
 rintro e a w ⟨o,t,hk,hr⟩
 cases e <;> first | exact hk.elim | exact ⟨o,t,hk,hr⟩
def WPS (P:Program) (C:Cx) (sc:SCode) (K:zas) (objs:List OB) (tm:List AV):Prop:=∀ c,trC P c=some sc → WP P C c K objs tm
def wpC (P:Program) [Tabs P] (C:Cx):SCode → zas → List OB → List AV → Prop
 | .skip,K,objs,tm => K .normal objs tm
 | .reg l,K,objs,tm => wpR P l objs tm fun o t => K .normal o t
 | .drw l k ap,K,objs,tm => wpD P (l.take k) objs tm fun o t => zcH ap t ∧ wpR P (l.drop k) o t fun o t => K .normal o t
 | .crg pre cl post,K,objs,tm => wpR P pre objs tm fun _ t1 => wpR P [cl] objs t1 fun o2 t2 => wpR P pre o2 tm (fun _ t => t=t1) ∧ wpR P post o2 t2 fun o t => K .normal o t
 | .crs st last,K,objs,tm => wpT P st [] last objs tm fun o t => K .normal o t
 | .cra d T z st last sr,K,objs,tm => tm.length ≤ 1000003 ∧ wpB P d T z st [] last objs tm fun o t => wpR P [sr] o t fun o t => K .normal o t
 | .seq x y,K,objs,tm => wpC P C x (zbQ (fun o t => wpC P C y K o t) K) objs tm
 | .cond c x y,K,objs,tm => match c.ev tm with
  | .b t => (t=true → wpC P C x K objs tm) ∧ (t=false → wpC P C y K objs tm)
  | _ => False
 | .blk id c,K,objs,tm => wpC P C c (blkK id K) objs tm
 | .loop c,K,objs,tm => WPS P C (.loop c) (ngK K) objs tm
 | .exit id,K,objs,tm => K (.exit id) objs tm
 | .ret,K,objs,tm => K .ret objs tm
 | .dead,K,objs,tm => False
theorem zbW:∀ (c:Code) (sc:SCode) (K:zas) (objs:List OB) (tm:List AV),trC P c=some sc → wpC P C sc K objs tm → WP P C c (ngK K) objs tm
 | .skip,sc,K,objs,tm,ht,h => by simp only [trC,Option.some.injEq] at ht; subst ht; exact WP.skip h
 | .region id ops false,sc,K,objs,tm,ht,h => by
  simp only [trC] at ht
  cases h1:ops.toList.mapM (trO P ops.toList) with
  | none =>
   rw [h1] at ht
   dsimp only at ht
   split at ht
   ·injection ht with ht; subst ht; exact h.elim
   ·cases ht
  | some l =>
   rw [h1] at ht; injection ht with ht; subst ht
   intro a w hr
   exact wp_region_list (wpR_ok (K:=ngK K) ops ops.toList l objs tm h1 h a w hr)
 | .region id ops true,sc,K,objs,tm,ht,h => by
  simp only [trC] at ht
  split at ht
  ·rename_i l h1
   split at ht
   ·rename_i hf
    split at ht
    ·rename_i c hc
     injection ht with ht; subst ht
     intro a w hr
     exact crg_ok (K:=ngK K) id ops l h1 c (pickC_ok hc) hf h a w hr
    split at ht
    ·rename_i hc
     injection ht with ht; subst ht
     intro a w hr
     rw [Bool.and_eq_true] at hc
     exact crs_ok (K:=ngK K) id ops l h1 hc.2 hf h a w hr
    rcases zfD ht with ⟨c,hc,rfl⟩ | ⟨r,hr0,rfl⟩ | ⟨hc,rfl⟩
    rotate_left
    ·obtain ⟨r1,r2⟩:=zgY hr0
     intro a w hr
     exact cra_ok (K:=ngK K) id ops l h1 r.1 r.2.1 r.2.2.1 r.2.2.2 r1 r2 hf h.1 h.2 a w hr
    ·intro a w hr
     exact crt_ok (K:=ngK K) id ops l h1 hc hf h a w hr
    intro a w hr
    rcases pickA_ok hc with ⟨c',hc',rfl⟩ | ⟨k,d,e,k1,k2,rfl⟩
    ·obtain ⟨c1,c2⟩:=pickD_ok hc'
     exact draw_ok (K:=ngK K) id ops l c'.1 h1 c1 _ c2 hf h a w hr
    ·exact fork_ok (K:=ngK K) id ops l h1 k d e k1 k2 hf h a w hr
   ·cases ht
  ·cases ht
 | .seq x y,sc,K,objs,tm,ht,h => by
  simp only [trC] at ht
  split at ht
  ·rename_i a b ha hb
   injection ht with ht; subst ht
   refine WP.seq (WP.mono ?_ (zbW x a _ objs tm ha h))
   intro e o t hk
   cases e with
   | normal => exact zbW y b K o t hb hk
   | _ => exact hk
  ·cases ht
 | .cond c x y,sc,K,objs,tm,ht,h => by
  simp only [trC] at ht
  split at ht
  ·rename_i a b ha hb
   injection ht with ht; subst ht
   simp only [wpC] at h
   split at h
   ·rename_i t hc
    exact WP.cond hc (fun e => zbW x a K objs tm ha (h.1 e)) (fun e => zbW y b K objs tm hb (h.2 e))
   ·exact h.elim
  ·cases ht
 | .block id c,sc,K,objs,tm,ht,h => by
  simp only [trC] at ht
  cases h1:trC P c with
  | none => rw [h1] at ht; cases ht
  | some a => rw [h1] at ht; injection ht with ht; subst ht; refine WP.block (WP.mono ?_ (zbW c a _ objs tm h1 h)); intro e o t hk; cases e with
   | exit id' => simp only [ngK,blkK] at hk ⊢; exact hk
   | _ => exact hk
 | .loop c,sc,K,objs,tm,ht,h => by
  have ht':=ht
  simp only [trC] at ht
  cases h1:trC P c with
  | none => rw [h1] at ht; cases ht
  | some a => rw [h1] at ht; injection ht with ht; subst ht; exact h _ ht'
 | .exit id,sc,K,objs,tm,ht,h => by simp only [trC,Option.some.injEq] at ht; subst ht; exact WP.exit h
 | .ret,sc,K,objs,tm,ht,h => by simp only [trC,Option.some.injEq] at ht; subst ht; exact WP.ret h
 | .rangeFunc ..,sc,K,objs,tm,ht,h => by simp [trC] at ht
 | .scope c,sc,K,objs,tm,ht,h => by simp only [trC] at ht; exact WP.scope (zbW c sc K objs tm ht h)
 | .label _,sc,K,objs,tm,ht,h => by simp only [trC,Option.some.injEq] at ht; subst ht; exact fun a w hr => wp_label ⟨_,_,h,hr⟩
 | .goto _,sc,K,objs,tm,ht,h => by simp [trC] at ht
 | .refuse _,sc,K,objs,tm,ht,h => by simp [trC] at ht
theorem wpC_ok (c:Code) (sc:SCode) (K:zas) (objs:List OB) (tm:List AV) (ht:trC P c=some sc) (h:wpC P C sc K objs tm):WP P C c K objs tm :=
 WP.mono (fun e o t hk => by cases e <;> first | exact hk.elim | exact hk) (zbW c sc K objs tm ht h)
theorem zfg {sc:SCode} {objs:List OB} {tm:List AV} (J:Nat → List OB → List AV → Prop) (n:Nat) (h0:J n objs tm)
  (round:∀ n objs tm,J n objs tm → wpC P C sc (zbQ (fun o t => ∃ m,m < n ∧ J m o t) K) objs tm):WPS P C (.loop sc) (ngK K) objs tm:=by
 intro c ht
 induction c with
 | scope c ih => simp only [trC] at ht; exact WP.scope (ih ht)
 | loop c _ =>
  simp only [trC] at ht
  cases h1:trC P c with
  | none => rw [h1] at ht; cases ht
  | some a =>
   rw [h1] at ht; injection ht with ht; injection ht with ht; subst ht
   refine WP.loop J n h0 fun n o t hj => WP.mono ?_ (zbW c a _ o t h1 (round n o t hj))
   intro e o t hk
   cases e with
   | normal => exact hk
   | _ => exact hk
 | region id ops draw =>
  cases draw
  ·simp only [trC] at ht; split at ht
   ·cases ht
   ·split at ht <;> cases ht
  ·simp only [trC] at ht
   split at ht
   ·split at ht
    ·split at ht
     ·cases ht
     split at ht
     ·cases ht
     ·rcases zfD ht with ⟨c,_,e⟩ | ⟨r,_,e⟩ | ⟨_,e⟩
      ·cases e
      ·unfold craC at e; cases e
      ·cases e
    ·cases ht
   ·cases ht
 | seq x y _ _ => simp only [trC] at ht; split at ht <;> cases ht
 | cond c x y _ _ => simp only [trC] at ht; split at ht <;> cases ht
 | block id c _ => simp only [trC] at ht; cases h1:trC P c <;> (rw [h1] at ht; cases ht)
 | _ => simp [trC] at ht
end
mutual
/-- the value as it is given away: rows of the call's own last from now on -/
def pub (objs:List OB):Nat → AV → Option AV
 | d,.agg cs => (zcf objs d cs).map .agg
 | d,.tup cs => (zcf objs d cs).map .tup
 | 0,.orow _ _ => none
 | d + 1,.orow b gen => match objs[b]? with
  | some (.orow _ _ gen' n xs) => if gen'=gen then (zcf objs d xs).map (.row n) else none
  | _ => none
 | _,x => if x.plain=true then some x else none
def zcf (objs:List OB):Nat → List AV → Option (List AV)
 | _,[] => some []
 | d,x :: xs => match pub objs d x,zcf objs d xs with
  | some y,some ys => some (y :: ys)
  | _,_ => none
end
def Imm.rows (I:Imm) (G:Gh) (objs:List OB) (w:World):Imm:=fun g o v => I g o v ∨ (w.cell? ⟨g,o,none⟩=some v ∧ ∃ b E sz gen n xs,objs[b]? = some (.orow E sz gen n xs) ∧ G.own b=some g)
mutual
theorem zeQ {G:Gh} {I:Imm} {objs:List OB} {w:World} (hm:MemOk G I objs w) (d:Nat) (ih:∀ d',d=d' + 1 → ∀ (xs rs:List AV) (ys:List Value),zcf objs d' xs=some rs → zac G I xs ys → zac Gh.none (I.rows G objs w) rs ys ∧ zak rs=true) :
  ∀ (x r:AV) (y:Value),pub objs d x=some r → Den G I x y → Den Gh.none (I.rows G objs w) r y ∧ r.plain=true
 | .agg cs,r,y,hp,h => by
  simp only [pub,Option.map_eq_some_iff] at hp
  obtain ⟨rs,h1,rfl⟩:=hp
  simp only [Den] at h ⊢
  obtain ⟨ys,e1,e2,e3⟩:=h
  obtain ⟨k1,k2⟩:=zb0 hm d ih cs rs ys h1 e2
  exact ⟨⟨ys,e1,k1,e3⟩,by simpa [AV.plain] using k2⟩
 | .tup cs,r,y,hp,h => by
  simp only [pub,Option.map_eq_some_iff] at hp
  obtain ⟨rs,h1,rfl⟩:=hp
  simp only [Den] at h ⊢
  obtain ⟨ys,e1,e2⟩:=h
  obtain ⟨k1,k2⟩:=zb0 hm d ih cs rs ys h1 e2
  exact ⟨⟨ys,e1,k1⟩,by simpa [AV.plain] using k2⟩
 | .orow b gen,r,y,hp,h => by
  cases d with
  | zero => simp [pub] at hp
  | succ d =>
   simp only [pub] at hp
   split at hp
   ·rename_i E sz gen' n xs hb
    split at hp
    ·rename_i hg
     subst hg
     simp only [Option.map_eq_some_iff] at hp
     obtain ⟨rs,h1,rfl⟩:=hp
     simp only [Den] at h ⊢
     obtain ⟨g',v,k1,k2,k3,_⟩:=h
     obtain ⟨v',vs,m1,m2,m3,m4,m5⟩:=hm.row b E sz gen' n xs hb
     rw [k1] at m1; injection m1 with m1; injection m1 with m1 m6
     have hv:=k3 m1.symm
     subst m1 m6 hv
     obtain ⟨q1,q2⟩:=ih d rfl xs rs vs h1 m3
     refine ⟨?_,by simpa [AV.plain] using q2⟩
     have hown:=zaH m5 k1
     rcases m2.2 with ⟨rfl,rfl⟩ | ⟨g,cap,cur,rfl,hx1,hx2,hx3,hx4⟩
     ·have hvs:vs=[]:=List.eq_nil_of_length_eq_zero (by simpa using m2.1)
      subst hvs
      exact ⟨none,0,[],rfl,⟨Nat.le_refl _,by intro _ e; cases e⟩,q1,by simp,by simp⟩
     ·refine ⟨some ⟨g,0,none⟩,cap,vs,rfl,⟨hx3,by rintro _ ⟨⟩ _; rfl⟩,q1,m4,fun j u hj => ⟨g,0,rfl,.inr ⟨?_,b,E,sz,_,n,xs,hb,hown⟩⟩⟩
      have:=m2.cells (g:=g) rfl j u hj
      rwa [zam] at this
    ·cases hp
   ·cases hp
 | .p b off,r,y,hp,h => by cases d <;> simp [pub,AV.plain] at hp
 | .porow b gen j,r,y,hp,h => by cases d <;> simp [pub,AV.plain] at hp
 | .bsl b off n,r,y,hp,h => by cases d <;> simp [pub,AV.plain] at hp
 | .m b,r,y,hp,h => by cases d <;> simp [pub,AV.plain] at hp
 | .ip T b off,r,y,hp,h => by cases d <;> simp [pub,AV.plain] at hp
 | .s l,r,y,hp,h => by
  have e:r=.s l:=by cases d <;> simp [pub,AV.plain] at hp <;> exact hp.symm
  subst e; exact ⟨Den.plain (fun _ _ _ h => .inl h) _ _ rfl h,rfl⟩
 | .i k n,r,y,hp,h => by
  have e:r=.i k n:=by cases d <;> simp [pub,AV.plain] at hp <;> exact hp.symm
  subst e; exact ⟨Den.plain (fun _ _ _ h => .inl h) _ _ rfl h,rfl⟩
 | .b x,r,y,hp,h => by
  have e:r=.b x:=by cases d <;> simp [pub,AV.plain] at hp <;> exact hp.symm
  subst e; exact ⟨Den.plain (fun _ _ _ h => .inl h) _ _ rfl h,rfl⟩
 | .nil,r,y,hp,h => by
  have e:r=.nil:=by cases d <;> simp [pub,AV.plain] at hp <;> exact hp.symm
  subst e; exact ⟨Den.plain (fun _ _ _ h => .inl h) _ _ rfl h,rfl⟩
 | .zn z,r,y,hp,h => by
  have e:r=.zn z:=by cases d <;> simp [pub,AV.plain] at hp <;> exact hp.symm
  subst e; exact ⟨Den.plain (fun _ _ _ h => .inl h) _ _ rfl h,rfl⟩
 | .o v,r,y,hp,h => by
  have e:r=.o v:=by cases d <;> simp [pub,AV.plain] at hp <;> exact hp.symm
  subst e; exact ⟨Den.plain (fun _ _ _ h => .inl h) _ _ rfl h,rfl⟩
 | .u,r,y,hp,h => by
  have e:r=.u:=by cases d <;> simp [pub,AV.plain] at hp <;> exact hp.symm
  subst e; exact ⟨Den.plain (fun _ _ _ h => .inl h) _ _ rfl h,rfl⟩
 | .row n xs,r,y,hp,h => by
  have e:(AV.row n xs).plain=true ∧ r=.row n xs:=by
   cases d <;> (simp only [pub] at hp; split at hp <;> first | (rename_i hq; injection hp with hp; exact ⟨hq,hp.symm⟩) | cases hp)
  obtain ⟨e1,rfl⟩:=e; exact ⟨Den.plain (fun _ _ _ h => .inl h) _ _ e1 h,e1⟩
 | .prow xs j,r,y,hp,h => by
  have e:(AV.prow xs j).plain=true ∧ r=.prow xs j:=by
   cases d <;> (simp only [pub] at hp; split at hp <;> first | (rename_i hq; injection hp with hp; exact ⟨hq,hp.symm⟩) | cases hp)
  obtain ⟨e1,rfl⟩:=e; exact ⟨Den.plain (fun _ _ _ h => .inl h) _ _ e1 h,e1⟩
 | .crow n xs,r,y,hp,h => by
  have e:(AV.crow n xs).plain=true ∧ r=.crow n xs:=by
   cases d <;> (simp only [pub] at hp; split at hp <;> first | (rename_i hq; injection hp with hp; exact ⟨hq,hp.symm⟩) | cases hp)
  obtain ⟨e1,rfl⟩:=e; exact ⟨Den.plain (fun _ _ _ h => .inl h) _ _ e1 h,e1⟩
 | .fn f fs cs,r,y,hp,h => by
  have e:(AV.fn f fs cs).plain=true ∧ r=.fn f fs cs:=by
   cases d <;> (simp only [pub] at hp; split at hp <;> first | (rename_i hq; injection hp with hp; exact ⟨hq,hp.symm⟩) | cases hp)
  obtain ⟨e1,rfl⟩:=e; exact ⟨Den.plain (fun _ _ _ h => .inl h) _ _ e1 h,e1⟩
theorem zb0 {G:Gh} {I:Imm} {objs:List OB} {w:World} (hm:MemOk G I objs w) (d:Nat) (ih:∀ d',d=d' + 1 → ∀ (xs rs:List AV) (ys:List Value),zcf objs d' xs=some rs → zac G I xs ys → zac Gh.none (I.rows G objs w) rs ys ∧ zak rs=true) :
  ∀ (xs rs:List AV) (ys:List Value),zcf objs d xs=some rs → zac G I xs ys → zac Gh.none (I.rows G objs w) rs ys ∧ zak rs=true
 | [],rs,ys,hp,h => by
  simp only [zcf,Option.some.injEq] at hp; subst hp
  simp only [zac] at h ⊢
  exact ⟨h,rfl⟩
 | x :: xs,rs,ys,hp,h => by
  simp only [zcf] at hp
  split at hp
  ·rename_i r rs' h1 h2
   injection hp with hp; subst hp
   simp only [zac] at h ⊢
   obtain ⟨y,ys',e1,e2,e3⟩:=h
   obtain ⟨k1,k2⟩:=zeQ hm d ih x r y h1 e2
   obtain ⟨k3,k4⟩:=zb0 hm d ih xs rs' ys' h2 e3
   exact ⟨⟨y,ys',e1,k1,k3⟩,by simp [zak,k2,k4]⟩
  ·cases hp
end
theorem zhS {G:Gh} {I:Imm} {objs:List OB} {w:World} (hm:MemOk G I objs w):∀ (d:Nat) (xs rs:List AV) (ys:List Value),zcf objs d xs=some rs → zac G I xs ys → zac Gh.none (I.rows G objs w) rs ys ∧ zak rs=true
 | 0 => zb0 hm 0 (fun d' e => by omega)
 | d + 1 => zb0 hm (d + 1) (fun d' e => by
   obtain rfl:d=d':=by omega
   exact zhS hm d)
theorem pub_ok {G:Gh} {I:Imm} {objs:List OB} {w:World} (hm:MemOk G I objs w) (d:Nat) (x r:AV) (y:Value) (hp:pub objs d x=some r) (h:Den G I x y):Den Gh.none (I.rows G objs w) r y ∧ r.plain=true:=by
 cases d with
 | zero => exact zeQ hm 0 (fun d' e => by omega) x r y hp h
 | succ d => exact zeQ hm (d + 1) (fun d' e => by
   obtain rfl:d=d':=by omega
   exact zhS hm d) x r y hp h
inductive SRes where
 | tmp (t:Nat)
 | cell1 (t:Nat)
 | celln (t sz:Nat)
def zda (P:Program):ResultVar → Option SRes
 | .tmp t => some (.tmp t)
 | .cell a t => match P.underlying t,P.info? t with
  | some d,some i => some (if d.isRow=true then .celln a i.size else .cell1 a)
  | _,_ => none
def zgQ (objs:List OB) (tm:List AV):SRes → Option AV
 | .tmp t => tm[t]?
 | .cell1 t => match tm[t]? with
  | some (.p b off) => match objs[b]? with
   | some (.box _ cs) => cs[off]?
   | _ => none
  | _ => none
 | .celln t sz => match tm[t]? with
  | some (.p b off) => match objs[b]? with
   | some (.box _ cs) => if off + sz ≤ cs.length then some (.agg ((cs.drop off).take sz)) else none
   | _ => none
  | _ => none
def zbv (objs:List OB) (tm:List AV):List SRes → Option (List AV)
 | [] => some []
 | r :: rs => match zgQ objs tm r,zbv objs tm rs with
  | some x,some xs => some (x :: xs)
  | _,_ => none
def zeF:List AV → AV
 | [x] => x
 | xs => .tup xs
def resF (tmps:Array Value):ResultVar → Sem Value
 | .tmp t => pure (tmps.getD t undef)
 | .cell b t => do loadVar t (← asAddr (tmps.getD b undef))
theorem zce (fn:Func) (tmps:Array Value):results fn tmps=(fn.results.mapM (resF tmps)) >>= fun vs => pure (if h:vs.size=1 then vs[0] else .tuple vs):=by
 unfold results
 congr 2
section
variable {P:Program}
theorem resA_run {G:Gh} {I:Imm} {objs:List OB} {tm:List AV} {a:Act} {w:World} (hm:MemOk G I objs w) (hd:zac G I tm a.tmps.toList) (r:ResultVar) (s:SRes) (x:AV) (hs:zda P r=some s) (hx:zgQ objs tm s=some x) :
  ∃ y,(resF a.tmps r).run P w=.ok y w ∧ Den G I x y:=by
 cases r with
 | tmp t =>
  simp only [zda,Option.some.injEq] at hs; subst hs
  simp only [zgQ] at hx
  obtain ⟨y,h1,h2⟩:=zac.get t hd hx
  refine ⟨y,?_,h2⟩
  rw [Array.getElem?_toList] at h1
  simp only [resF,Array.getD_eq_getD_getElem?,h1,Option.getD_some]; rfl
 | cell b t =>
  simp only [zda] at hs
  split at hs
  ·rename_i d i hu hi
   injection hs with hs; subst hs
   have getp:∀ bb off,tm[b]? = some (.p bb off) → ∃ g,G.blk bb=some g ∧ a.tmps.getD b undef=.pointer (some ⟨g,off,none⟩):=by
    intro bb off ht
    obtain ⟨y,h1,h2⟩:=zac.get b hd ht
    simp only [Den] at h2
    obtain ⟨g,hg,rfl⟩:=h2
    rw [Array.getElem?_toList] at h1
    exact ⟨g,hg,by simp [Array.getD_eq_getD_getElem?,h1]⟩
   rcases hr:d.isRow with _ | _
   ·simp only [hr,Bool.false_eq_true,if_false,zgQ] at hx
    split at hx
    ·rename_i bb off ht
     split at hx
     ·rename_i T cs hb
      obtain ⟨g,hg,hv⟩:=getp bb off ht
      obtain ⟨g',ys,k1,k2,k3,k4⟩:=hm.box bb T cs hb
      obtain rfl:g=g':=Option.some.inj (hg.symm.trans k1)
      obtain ⟨y,hy,hyd⟩:=zac.get off k3 hx
      refine ⟨y,?_,hyd⟩
      have hcell:w.cell? ⟨g,off,none⟩=some y:=by rw [cell_of_row w g off _ T (0,0) k2]; simpa using hy
      simp [resF,hv,asAddr,loadVar,zbD hu,hr,load,Sem.run,hcell]
     ·cases hx
    ·cases hx
   ·simp only [hr,if_true,zgQ] at hx
    split at hx
    ·rename_i bb off ht
     split at hx
     ·rename_i T cs hb
      split at hx
      ·rename_i hlen
       injection hx with hx; subst hx
       obtain ⟨g,hg,hv⟩:=getp bb off ht
       obtain ⟨g',ys,k1,k2,k3,k4⟩:=hm.box bb T cs hb
       obtain rfl:g=g':=Option.some.inj (hg.symm.trans k1)
       have hl:=k3.length
       refine ⟨.agg ((ys.drop off).take i.size).toArray,?_,?_⟩
       ·have:=run_loadVar_mid (P:=P) w g off t ((ys.drop off).take i.size) d (by
         intro j v hj
         rw [cell_of_row w g (off + j) _ T (0,0) k2]
         rw [List.getElem?_take] at hj
         split at hj
         ·simpa [List.getElem?_drop] using hj
         ·cases hj) hu hr (by rw [hi]; simp; omega)
        simp [resF,hv,asAddr,this]
       ·simp only [Den]
        exact ⟨_,rfl,zac.take i.size (zac.drop off k3),fun u hu => k4 u (List.mem_of_mem_drop (List.mem_of_mem_take hu))⟩
      ·cases hx
     ·cases hx
    ·cases hx
  ·cases hs
theorem zef {G:Gh} {I:Imm} {objs:List OB} {tm:List AV} {a:Act} {w:World} (hm:MemOk G I objs w) (hd:zac G I tm a.tmps.toList):∀ (rs:List ResultVar) (ss:List SRes) (xs:List AV),rs.mapM (zda P)=some ss → zbv objs tm ss=some xs →
  ∃ ys,(rs.mapM (resF a.tmps)).run P w=.ok ys w ∧ zac G I xs ys
 | [],ss,xs,hs,hx => by
  simp at hs; subst hs
  simp only [zbv,Option.some.injEq] at hx; subst hx
  exact ⟨[],by simp,zac.nil⟩
 | r :: rs,ss,xs,hs,hx => by
  simp only [List.mapM_cons,Option.bind_eq_bind,Option.pure_def] at hs
  cases h1:zda P r with
  | none => simp [h1] at hs
  | some s =>
   cases h2:rs.mapM (zda P) with
   | none => simp [h1,h2] at hs
   | some ss' =>
    simp [h1,h2] at hs
    subst hs
    simp only [zbv] at hx
    split at hx
    ·rename_i x xs' hx1 hx2
     injection hx with hx; subst hx
     obtain ⟨y,k1,k2⟩:=resA_run hm hd r s x h1 hx1
     obtain ⟨ys,k3,k4⟩:=zef hm hd rs ss' xs' h2 hx2
     exact ⟨y :: ys,by simp only [List.mapM_cons,Sem.run_bind,k1,Result.andThen_ok,k3,Sem.run_pure],zac.cons k2 k4⟩
    ·cases hx
theorem zbT {fn:Func} {G:Gh} {I:Imm} {objs:List OB} {tm:List AV} {a:Act} {w:World} (hm:MemOk G I objs w) (hd:zac G I tm a.tmps.toList) (ss:List SRes) (xs:List AV) (hs:fn.results.toList.mapM (zda P)=some ss) (hx:zbv objs tm ss=some xs) :
  ∃ y,(results fn a.tmps).run P w=.ok y w ∧ Den G I (zeF xs) y:=by
 obtain ⟨ys,h1,h2⟩:=zef hm hd _ ss xs hs hx
 have hl:=h2.length
 have hr:(fn.results.mapM (resF a.tmps)).run P w=.ok ys.toArray w:=by
  rw [Array.mapM_eq_mapM_toList,Sem.run_map,h1]; rfl
 match xs,ys,h2,hl with
 | [x],[y],h2,_ =>
  simp only [zac] at h2
  obtain ⟨y',ys',e,h3,h4⟩:=h2
  injection e with e1 e2; subst e1
  refine ⟨y,?_,h3⟩
  rw [zce,Sem.run_bind,hr]
  simp
 | [],[],h2,_ =>
  refine ⟨.tuple #[],?_,?_⟩
  ·rw [zce,Sem.run_bind,hr]
   simp
  ·simp only [zeF,Den]; exact ⟨[],rfl,zac.nil⟩
 | x :: x' :: xs,y :: y' :: ys,h2,_ =>
  refine ⟨.tuple (y :: y' :: ys).toArray,?_,?_⟩
  ·rw [zce,Sem.run_bind,hr]
   simp
  ·simp only [zeF,Den]; exact ⟨_,rfl,h2⟩
 | [],y :: ys,h2,hl => exact absurd hl (by simp)
 | x :: xs,[],h2,hl => exact absurd hl (by simp)
 | [x],y :: y' :: ys,h2,hl => exact absurd hl (by simp)
 | x :: x' :: xs,[y],h2,hl => exact absurd hl (by simp)
def outK (ss:List SRes) (K:AV → Prop) (objs:List OB) (tm:List AV):Prop :=
 match (zbv objs tm ss).bind (fun xs => pub objs 5 (zeF xs)) with
 | some r => K r
 | none => False
def endK (ss:List SRes) (K:AV → Prop):zas
 | .normal,objs,tm => outK ss K objs tm
 | .ret,objs,tm => outK ss K objs tm
 | _,_,_ => False
structure FnIs (P:Program) (f:FuncId) (n:Nat) (ss:List SRes) (sc:SCode):Prop where
 is:∃ fn c,P.funcs[f]? = some fn ∧ fn.body=some c ∧ fn.ntmps=n ∧ fn.results.toList.mapM (zda P)=some ss ∧ trC P c=some sc
theorem fn_ok [Tabs P] {f:FuncId} {n:Nat} {ss:List SRes} {sc:SCode} (hf:FnIs P f n ss sc) {args:List AV} {objs:List OB} {K:List OB → AV → Prop} (hp:zak args=true)
  (h:∀ (C:Cx) [On P C],wpC P C sc (endK ss (fun r => K objs r)) [] (args ++ List.replicate (n - args.length) (.o undef))):zae P f args objs K:=by
 intro C hOn G I w hin hm ys hd
 obtain ⟨fn,c,h1,h2,h3,h4,h5⟩:=hf.is
 let C':Cx:=⟨w,fun _ => False,I,Gh.none⟩
 haveI hOn':On P C':=⟨hin.tab (P:=P),fun _ h => h⟩
 have hwp:=wpC_ok (C:=C') c sc _ [] _ h5 (h C')
 have hlen:=hd.length
 have hrel:Rel C' [] (args ++ List.replicate (n - args.length) (.o undef)) { tmps:=ys.toArray ++ Array.replicate (fn.ntmps - ys.toArray.size) undef,defers:=[] } w:=by
  refine ⟨Gh.none,I,⟨rfl,rfl,rfl,Nat.le_refl _,fun _ _ _ => rfl,fun _ _ _ h => h,fun _ _ _ h => .inl h,fun b g hb => by simp [Gh.own,Gh.none] at hb,Gh.le.refl _⟩,
   ⟨hm.imm,by simp,by simp,by simp,fun b b' g hb => by simp [Gh.own,Gh.none] at hb,fun b g hb => by simp [Gh.own,Gh.none] at hb,fun b g o v hb => by simp [Gh.own,Gh.none] at hb,fun b _ => ⟨rfl,rfl⟩⟩,?_,rfl⟩
  simp only [Array.toList_append,Array.toList_replicate,h3,List.size_toArray]
  refine zac.append (zac.plain (Imm.le.refl I) _ _ hp hd) ?_
  rw [hlen]
  have:∀ k,zac Gh.none I (List.replicate k (.o undef)) (List.replicate k undef):=by
   intro k
   induction k with
   | zero => exact zac.nil
   | succ k ih => exact zac.cons (by simp [Den]) ih
  exact this _
 refine calls_of_wp h1 h2 (wp_mono (hwp _ _ hrel) ?_)
 rintro e a' w' ⟨objs',tm',hk,G',I',hin',hm',hd',hdef⟩
 have key:outK ss (fun r => K objs r) objs' tm' →
   a'.defers=[] ∧ ∃ v,(results fn a'.tmps).run P w'=.ok v w' ∧ ∃ y objs'' r G'' I'',Ending.returned v=.returned y ∧ K objs'' r ∧ G.le G'' ∧ Imm.le I I'' ∧ In C G'' I'' w' ∧ MemOk G'' I'' objs'' w' ∧ Den G'' I'' r y:=by
  intro hk
  unfold outK at hk
  split at hk
  ·rename_i r hr0
   obtain ⟨xs,hxs,hr⟩:=Option.bind_eq_some_iff.1 hr0
   ·obtain ⟨y,hy,hyd⟩:=zbT (P:=P) (fn:=fn) hm' hd' ss xs h4 hxs
    obtain ⟨p1,p2⟩:=pub_ok hm' 5 _ r y hr hyd
    have hg:w.grownBy w' none:=⟨hin'.os,hin'.tape,hin'.output,hin'.size,fun k hk _ => hin'.block k hk (fun h => h)⟩
    have hle:Imm.le I (I'.rows G' objs' w'):=fun g o v hi => .inl (hin'.imm g o v hi)
    have hnew:∀ g o v,I'.rows G' objs' w' g o v → I g o v ∨ w.heap.size ≤ g:=by
     rintro g o v (hi | ⟨_,b,E,sz,gen,n,xs,hb,ho⟩)
     ·rcases hin'.news g o v hi with h | h | h
      ·exact .inl h
      ·exact h.elim
      ·exact .inr h
     ·rcases hin'.blk b g ho with h | h
      ·exact h.elim
      ·exact .inr h
    refine ⟨hdef,y,hy,y,objs,r,G,I'.rows G' objs' w',rfl,hk,Gh.le.refl G,hle,(hin.evolve hg (by simp)).imm_more hle ?_,(hm.evolve hg).imm_more hle ?_ ?_,Den.plain (Imm.le.refl _) r y p2 p1⟩
    ·intro g o v hi
     rcases hnew g o v hi with h | h
     ·exact .inl h
     ·exact .inr (.inr (Nat.le_trans hin.size h))
    ·rintro g o v (hi | ⟨hc,_⟩)
     ·exact hm'.imm g o v hi
     ·exact hc
    ·intro b g o v hb hi
     rcases hnew g o v hi with h | h
     ·exact hm.apart b g o v hb h
     ·have:=hm.lt b g hb; omega
  ·exact hk.elim
 cases e with
 | normal => exact key hk
 | ret => exact key hk
 | _ => exact hk.elim
def zg8 (ss:List SRes) (K:List OB → AV → Prop) (objs:List OB) (tm:List AV):Prop :=
 match zbv objs tm ss with
 | some xs => K objs (zeF xs)
 | none => False
def endI (ss:List SRes) (K:List OB → AV → Prop):zas
 | .normal,objs,tm => zg8 ss K objs tm
 | .ret,objs,tm => zg8 ss K objs tm
 | _,_,_ => False
theorem fn_in [Tabs P] {f:FuncId} {n:Nat} {ss:List SRes} {sc:SCode} (hf:FnIs P f n ss sc) {args:List AV} {objs:List OB} {K:List OB → AV → Prop}
  (h:∀ (C:Cx) [On P C],wpC P C sc (endI ss K) objs (args ++ List.replicate (n - args.length) (.o undef))):zae P f args objs K:=by
 intro C hOn G I w hin hm ys hd
 obtain ⟨fn,c,h1,h2,h3,h4,h5⟩:=hf.is
 let C':Cx:=⟨C.w,C.own,I,G⟩
 haveI hOn':On P C':=⟨hOn.tab,hOn.own⟩
 have hwp:=wpC_ok (C:=C') c sc _ objs _ h5 (h C')
 have hlen:=hd.length
 have hrel:Rel C' objs (args ++ List.replicate (n - args.length) (.o undef)) { tmps:=ys.toArray ++ Array.replicate (fn.ntmps - ys.toArray.size) undef,defers:=[] } w:=by
  refine ⟨G,I,⟨hin.os,hin.tape,hin.output,hin.size,hin.block,fun _ _ _ h => h,fun _ _ _ h => .inl h,hin.blk,Gh.le.refl G⟩,hm,?_,rfl⟩
  simp only [Array.toList_append,Array.toList_replicate,h3,List.size_toArray]
  refine zac.append hd ?_
  rw [hlen]
  have:∀ k,zac G I (List.replicate k (.o undef)) (List.replicate k undef):=by
   intro k
   induction k with
   | zero => exact zac.nil
   | succ k ih => exact zac.cons (by simp [Den]) ih
  exact this _
 refine calls_of_wp h1 h2 (wp_mono (hwp _ _ hrel) ?_)
 rintro e a' w' ⟨objs',tm',hk,G',I',hin',hm',hd',hdef⟩
 have key:zg8 ss K objs' tm' →
   a'.defers=[] ∧ ∃ v,(results fn a'.tmps).run P w'=.ok v w' ∧ ∃ y objs'' r G'' I'',Ending.returned v=.returned y ∧ K objs'' r ∧ G.le G'' ∧ Imm.le I I'' ∧ In C G'' I'' w' ∧ MemOk G'' I'' objs'' w' ∧ Den G'' I'' r y:=by
  intro hk
  unfold zg8 at hk
  split at hk
  ·rename_i xs hxs
   obtain ⟨y,hy,hyd⟩:=zbT (P:=P) (fn:=fn) hm' hd' ss xs h4 hxs
   refine ⟨hdef,y,hy,y,objs',_,G',I',rfl,hk,hin'.gh,hin'.imm,⟨hin'.os,hin'.tape,hin'.output,hin'.size,hin'.block,fun g o v hi => hin'.imm g o v (hin.imm g o v hi),fun g o v hi => ?_,hin'.blk,hin.gh.trans hin'.gh⟩,hm',hyd⟩
   rcases hin'.news g o v hi with h | h
   ·exact hin.news g o v h
   ·exact .inr h
  ·exact hk.elim
 cases e with
 | normal => exact key hk
 | ret => exact key hk
 | _ => exact hk.elim
theorem law_ok [Tabs P] {f:FuncId} {args:List AV} {ys:List Value} {w:World} (hd:zac Gh.none (fun g o v => w.cell? ⟨g,o,none⟩=some v) args ys) (hT:Tabs.T (P:=P) w) (h:zae P f args [] (fun _ r => r=.b true)) :
  Calls P f ys.toArray w fun e w' => e=.returned (.bool true) ∧ Below w.heap.size w w':=by
 haveI:On P ⟨w,fun _ => False,fun g o v => w.cell? ⟨g,o,none⟩=some v,Gh.none⟩:=⟨hT,fun _ h => h⟩
 have hc:=h ⟨w,fun _ => False,fun g o v => w.cell? ⟨g,o,none⟩=some v,Gh.none⟩ Gh.none (fun g o v => w.cell? ⟨g,o,none⟩=some v) w
  ⟨rfl,rfl,rfl,Nat.le_refl _,fun _ _ _ => rfl,fun _ _ _ h => h,fun _ _ _ h => .inl h,fun b g hb => by simp [Gh.own,Gh.none] at hb,Gh.le.refl _⟩
  ⟨fun _ _ _ h => h,by simp,by simp,by simp,fun b b' g hb => by simp [Gh.own,Gh.none] at hb,fun b g hb => by simp [Gh.own,Gh.none] at hb,fun b g o v hb => by simp [Gh.own,Gh.none] at hb,fun b _ => ⟨rfl,rfl⟩⟩ ys hd
 refine hc.mono ?_
 rintro e w' ⟨y,objs',r,G',I',rfl,rfl,_,_,hin,_,hy⟩
 simp only [Den] at hy; subst hy
 exact ⟨rfl,hin.os,hin.tape,hin.output,hin.size,fun k hk => hin.block k hk (fun h => h)⟩
end
end Go.Proofs.YtbeoijfmfkifeaaGreatDoor.Sx
namespace Go.Proofs.YtbeoijfmfkifeaaGreatDoor.Sx
open Go.RowKit
inductive IT where
 | code (c:SCode)
 | ops (l:List SO)
 | dops (l:List SO)
 | ap (l:List (Nat × Nat × Option (Nat × Bool)))
 | blk (id:Nat)
def zgA (P:Program) [Tabs P] (C:Cx) (F:zas):List IT → zas
 | [] => F
 | .code c :: k => zbQ (fun o t => wpC P C c (zgA P C F k) o t) (zgA P C F k)
 | .ops l :: k => zbQ (fun o t => wpR P l o t fun o t => zgA P C F k .normal o t) (zgA P C F k)
 | .dops l :: k => zbQ (fun o t => wpD P l o t fun o t => zgA P C F k .normal o t) (zgA P C F k)
 | .ap l :: k => zbQ (fun o t => zcH l t ∧ zgA P C F k .normal o t) (zgA P C F k)
 | .blk id :: k => blkK id (zgA P C F k)
def run (P:Program) [Tabs P] (C:Cx) (k:List IT) (objs:List OB) (tm:List AV) (F:zas):Prop:=zgA P C F k .normal objs tm
def xit (P:Program) [Tabs P] (C:Cx) (id:Nat) (k:List IT) (objs:List OB) (tm:List AV) (F:zas):Prop:=zgA P C F k (.exit id) objs tm
def loopF (P:Program) [Tabs P] (C:Cx) (J:Nat → List OB → List AV → Prop) (n:Nat) (k:List IT) (F:zas):zas:=zbQ (fun o t => ∃ m,m < n ∧ J m o t) (zgA P C F k)
def evs (tm:List AV):List SV → List AV
 | [] => []
 | x :: xs => x.ev tm :: evs tm xs
theorem zb4 (tm:List AV):∀ l:List SV,evs tm l=l.map fun x => x.ev tm
 | [] => rfl
 | x :: l => by rw [evs,zb4 tm l]; rfl
def evp (tm:List AV):List (Nat × Nat × SV) → List (Nat × Nat × AV)
 | [] => []
 | (o,s,x) :: xs => (o,s,x.ev tm) :: evp tm xs
theorem zgg (tm:List AV):∀ l:List (Nat × Nat × SV),evp tm l=l.map fun p => (p.1,p.2.1,p.2.2.ev tm)
 | [] => rfl
 | (o,s,x) :: l => by rw [evp,zgg tm l]; rfl
def bxs:Option OB → Option (List AV)
 | some (.box _ cs) => some cs
 | _ => none
theorem zjS (T:TypeId) (cs:List AV):bxs (some (.box T cs))=some cs:=Eq.trans rfl rfl
section
variable {P:Program} [Tabs P] {C:Cx} {F:zas} {k:List IT} {r:List SO} {objs:List OB} {tm:List AV} {d:Option Nat}
theorem rn_nil:run P C [] objs tm F=F .normal objs tm:=Eq.trans rfl rfl
theorem rn_seq (x y:SCode):run P C (.code (.seq x y) :: k) objs tm F=run P C (.code x :: .code y :: k) objs tm F:=Eq.trans rfl rfl
theorem zhx:run P C (.code .skip :: k) objs tm F=run P C k objs tm F:=Eq.trans rfl rfl
theorem rn_reg (l:List SO):run P C (.code (.reg l) :: k) objs tm F=run P C (.ops l :: k) objs tm F:=Eq.trans rfl rfl
theorem rn_ap (l:List (Nat × Nat × Option (Nat × Bool))):run P C (.ap l :: k) objs tm F=(zcH l tm ∧ run P C k objs tm F):=Eq.trans rfl rfl
theorem apOk_n:zcH [] tm=True:=Eq.trans rfl rfl
theorem apOk_c (s s':Nat) (g:Option (Nat × Bool)) (l:List (Nat × Nat × Option (Nat × Bool))):zcH ((s,s',g) :: l) tm=((if s' < 1000000 then apG g tm (zbn tm[s]? tm[s']?) else apS tm[s]? tm[s' - 1000000]?) ∧ zcH l tm):=Eq.trans rfl rfl
theorem apG_n (p:Prop):apG none tm p=p:=Eq.trans rfl rfl
theorem apG_s (g:Nat) (b:Bool) (p:Prop):apG (some (g,b)) tm p=apB tm[g]? b p:=Eq.trans rfl rfl
theorem apB_tt (p:Prop):apB (some (.b true)) true p=p:=Eq.trans rfl rfl
theorem apB_ff (p:Prop):apB (some (.b false)) false p=p:=Eq.trans rfl rfl
theorem apB_tf (p:Prop):apB (some (.b true)) false p=True:=Eq.trans rfl rfl
theorem apB_ft (p:Prop):apB (some (.b false)) true p=True:=Eq.trans rfl rfl
theorem apS_o (b g j b' g' j':Nat):apS (some (.porow b g j)) (some (.porow b' g' j'))=(¬ b=b'):=Eq.trans rfl rfl
theorem apS_p (b g j b' o':Nat):apS (some (.porow b g j)) (some (.p b' o'))=(¬ b=b'):=Eq.trans rfl rfl
theorem zgF (b o b' g':Nat):zbn (some (.p b o)) (some (.orow b' g'))=(¬ b=b'):=Eq.trans rfl rfl
theorem zgE (b o b' g' j':Nat):zbn (some (.p b o)) (some (.porow b' g' j'))=(¬ b=b'):=Eq.trans rfl rfl
theorem zgD (xs:List AV) (j b' g':Nat):zbn (some (.prow xs j)) (some (.orow b' g'))=True:=Eq.trans rfl rfl
theorem zgC (xs:List AV) (j b' g' j':Nat):zbn (some (.prow xs j)) (some (.porow b' g' j'))=True:=Eq.trans rfl rfl
theorem zj2 (b o b' o':Nat):zbn (some (.p b o)) (some (.p b' o'))=(¬ b=b'):=Eq.trans rfl rfl
theorem zj1 (xs:List AV) (j b' o':Nat):zbn (some (.prow xs j)) (some (.p b' o'))=True:=Eq.trans rfl rfl
theorem rn_drw (l:List SO) (n:Nat) (ap:List (Nat × Nat × Option (Nat × Bool))):run P C (.code (.drw l n ap) :: k) objs tm F=run P C (.dops (l.take n) :: .ap ap :: .ops (l.drop n) :: k) objs tm F:=Eq.trans rfl rfl
theorem rn_crg (pre:List SO) (cl:SO) (post:List SO):run P C (.code (.crg pre cl post) :: k) objs tm F=run P C [.ops pre] objs tm (fun _ _ t1 => run P C [.ops [cl]] objs t1 (fun _ o2 t2 => run P C [.ops pre] o2 tm (fun _ _ t => t=t1) ∧ run P C (.ops post :: k) o2 t2 F)):=Eq.trans rfl rfl
def rcr (P:Program) [Tabs P] (C:Cx):List (List SO × List AV × List AV) → List OB → Prop
 | [],_ => True
 | e :: r,o => run P C [.ops e.1] o e.2.1 (fun _ _ x => x=e.2.2) ∧ rcr P C r o
def rst (P:Program) [Tabs P] (C:Cx) (st:List (List SO × SO)) (hist:List (List SO × List AV × List AV)) (last:List SO) (k:List IT) (objs:List OB) (tm:List AV) (F:zas):Prop:=wpT P st hist last objs tm fun o t => run P C k o t F
theorem rcr_n (o:List OB):rcr P C [] o=True:=Eq.trans rfl rfl
theorem rcr_c (L:List SO) (b u:List AV) (h:List (List SO × List AV × List AV)) (o:List OB):rcr P C ((L,b,u) :: h) o=(run P C [.ops L] o b (fun _ _ x => x=u) ∧ rcr P C h o):=Eq.trans rfl rfl
theorem zfy:∀ (h:List (List SO × List AV × List AV)) (o:List OB),zaL P h o=rcr P C h o
 | [],o => rfl
 | e :: h,o => by
  unfold zaL rcr
  rw [zfy h o]
  rfl
theorem rn_crs (st:List (List SO × SO)) (last:List SO):run P C (.code (.crs st last) :: k) objs tm F=rst P C st [] last k objs tm F:=Eq.trans rfl rfl
theorem rst_n (h:List (List SO × List AV × List AV)) (last:List SO):rst P C [] h last k objs tm F=run P C (.ops last :: k) objs tm F:=Eq.trans rfl rfl
theorem rst_c (L:List SO) (c:SO) (st:List (List SO × SO)) (h:List (List SO × List AV × List AV)) (last:List SO):rst P C ((L,c) :: st) h last k objs tm F=run P C [.ops L] objs tm (fun _ _ u => run P C [.ops [c]] objs u (fun _ o' t' => rcr P C ((L,tm,u) :: h) o' ∧ rst P C st ((L,tm,u) :: h) last k o' t' F)):=by
 rw [show rst P C ((L,c) :: st) h last k objs tm F=wpR P L objs tm (fun _ u => wpR P [c] objs u fun o' t' => zaL P ((L,tm,u) :: h) o' ∧ wpT P st ((L,tm,u) :: h) last o' t' fun o t => run P C k o t F) from rfl]
 simp only [zfy (C:=C)]
 rfl
def rsb (P:Program) [Tabs P] (C:Cx) (d:Nat) (T:TypeId) (z:List AV) (sr:SO) (st:List (List SO × SO)) (hist:List (List SO × List AV × List AV)) (last:List SO) (k:List IT) (objs:List OB) (tm:List AV) (F:zas):Prop:=wpB P d T z st hist last objs tm fun o t => wpR P [sr] o t fun o t => run P C k o t F
theorem hsV_n (d:Nat) (p:AV):hsV d p []=[]:=Eq.trans rfl rfl
theorem hsV_c (d:Nat) (p:AV) (L:List SO) (b u:List AV) (h:List (List SO × List AV × List AV)):hsV d p ((L,b,u) :: h)=(L,b.set d p,u.set d p) :: hsV d p h:=Eq.trans rfl rfl
theorem rn_cra (d:Nat) (T:TypeId) (z:List AV) (st:List (List SO × SO)) (last:List SO) (sr:SO):run P C (.code (.cra d T z st last sr) :: k) objs tm F=(tm.length ≤ 1000003 ∧ rsb P C d T z sr st [] last k objs tm F):=Eq.trans rfl rfl
theorem rsb_n (d:Nat) (T:TypeId) (z:List AV) (sr:SO) (h:List (List SO × List AV × List AV)) (last:List SO):rsb P C d T z sr [] h last k objs tm F=run P C [.ops last] objs tm (fun _ _ u => rcr P C (hsV d (.p objs.length 0) ((last,tm,u) :: h)) (objs ++ [.box T z]) ∧ run P C (.ops [sr] :: k) (objs ++ [.box T z]) (u.set d (.p objs.length 0)) F):=by
 rw [show rsb P C d T z sr [] h last k objs tm F=wpR P last objs tm (fun _ u => zaL P (hsV d (.p objs.length 0) ((last,tm,u) :: h)) (objs ++ [.box T z]) ∧ wpR P [sr] (objs ++ [.box T z]) (u.set d (.p objs.length 0)) fun o t => run P C k o t F) from rfl]
 simp only [zfy (C:=C)]
 rfl
theorem rsb_c (d:Nat) (T:TypeId) (z:List AV) (sr:SO) (L:List SO) (c:SO) (st:List (List SO × SO)) (h:List (List SO × List AV × List AV)) (last:List SO):rsb P C d T z sr ((L,c) :: st) h last k objs tm F=run P C [.ops L] objs tm (fun _ _ u => (rcr P C (hsV d (.p objs.length 0) ((L,tm,u) :: h)) (objs ++ [.box T z]) ∧ run P C [.ops [c]] (objs ++ [.box T z]) (u.set d (.p objs.length 0)) (fun _ o' t' => rcr P C (hsV d (.p objs.length 0) ((L,tm,u) :: h)) o' ∧ rst P C st (hsV d (.p objs.length 0) ((L,tm,u) :: h)) last (.ops [sr] :: k) o' t' F)) ∧ run P C [.ops [c]] objs u (fun _ o' t' => rcr P C ((L,tm,u) :: h) o' ∧ rsb P C d T z sr st ((L,tm,u) :: h) last k o' t' F)):=by
 rw [show rsb P C d T z sr ((L,c) :: st) h last k objs tm F=wpR P L objs tm (fun _ u => (zaL P (hsV d (.p objs.length 0) ((L,tm,u) :: h)) (objs ++ [.box T z]) ∧ wpR P [c] (objs ++ [.box T z]) (u.set d (.p objs.length 0)) (fun o' t' => zaL P (hsV d (.p objs.length 0) ((L,tm,u) :: h)) o' ∧ wpT P st (hsV d (.p objs.length 0) ((L,tm,u) :: h)) last o' t' fun o t => wpR P [sr] o t fun o t => run P C k o t F)) ∧ wpR P [c] objs u (fun o' t' => zaL P ((L,tm,u) :: h) o' ∧ wpB P d T z st ((L,tm,u) :: h) last o' t' fun o t => wpR P [sr] o t fun o t => run P C k o t F)) from rfl]
 simp only [zfy (C:=C)]
 rfl
theorem za2 (id:Nat) (c:SCode):run P C (.code (.blk id c) :: k) objs tm F=run P C (.code c :: .blk id :: k) objs tm F:=Eq.trans rfl rfl
theorem zfr (id:Nat):run P C (.blk id :: k) objs tm F=run P C k objs tm F:=Eq.trans rfl rfl
theorem zdh:run P C (.ops [] :: k) objs tm F=run P C k objs tm F:=Eq.trans rfl rfl
theorem zcS:run P C (.dops [] :: k) objs tm F=run P C k objs tm F:=Eq.trans rfl rfl
theorem zbs:∀ (k:List IT),zgA P C F k .ret objs tm=F .ret objs tm
 | [] => rfl
 | .code c :: k => zbs k
 | .ops l :: k => zbs k
 | .dops l :: k => zbs k
 | .ap l :: k => zbs k
 | .blk id :: k => zbs k
theorem rn_ret:run P C (.code .ret :: k) objs tm F=F .ret objs tm:=zbs k
theorem zhI:run P C (.code .dead :: k) objs tm F=False:=Eq.trans rfl rfl
theorem zhH (id:Nat):run P C (.code (.exit id) :: k) objs tm F=xit P C id k objs tm F:=Eq.trans rfl rfl
theorem zhc (id:Nat):xit P C id [] objs tm F=F (.exit id) objs tm:=Eq.trans rfl rfl
theorem zff (id:Nat) (c:SCode):xit P C id (.code c :: k) objs tm F=xit P C id k objs tm F:=Eq.trans rfl rfl
theorem zhb (id:Nat) (l:List SO):xit P C id (.ops l :: k) objs tm F=xit P C id k objs tm F:=Eq.trans rfl rfl
theorem zfe (id:Nat) (l:List SO):xit P C id (.dops l :: k) objs tm F=xit P C id k objs tm F:=Eq.trans rfl rfl
theorem xit_ap (id:Nat) (l:List (Nat × Nat × Option (Nat × Bool))):xit P C id (.ap l :: k) objs tm F=xit P C id k objs tm F:=Eq.trans rfl rfl
theorem zhd (id id':Nat):xit P C id (.blk id' :: k) objs tm F=if id=id' then run P C k objs tm F else xit P C id k objs tm F:=Eq.trans rfl rfl
theorem zcs (J:Nat → List OB → List AV → Prop) (n:Nat):loopF P C J n k F .normal objs tm=∃ m,m < n ∧ J m objs tm:=Eq.trans rfl rfl
theorem zdn (J:Nat → List OB → List AV → Prop) (n id:Nat):loopF P C J n k F (.exit id) objs tm=xit P C id k objs tm F:=Eq.trans rfl rfl
theorem zej (J:Nat → List OB → List AV → Prop) (n:Nat):loopF P C J n k F .ret objs tm=F .ret objs tm:=zbs k
theorem zaF [On P C] {c:SCode} (J:Nat → List OB → List AV → Prop) (n:Nat) (h0:J n objs tm) (round:∀ n objs tm,J n objs tm → run P C [.code c] objs tm (loopF P C J n k F)):run P C (.code (.loop c) :: k) objs tm F :=
 zfg J n h0 round
def kO (P:Program) [Tabs P] (C:Cx) (v:Option AV) (d:Option Nat) (r:List SO) (k:List IT) (objs:List OB) (tm:List AV) (F:zas):Prop :=
 match v with
 | some v => run P C (.ops r :: k) objs (zaj tm d v) F
 | none => False
theorem zaB (op:SOp):run P C (.ops (⟨d,op,none⟩ :: r) :: k) objs tm F=wpS P op objs tm fun o v => run P C (.ops r :: k) o (zaj tm d v) F:=Eq.trans rfl rfl
theorem zis (v:AV):kO P C (some v) d r k objs tm F=run P C (.ops r :: k) objs (zaj tm d v) F:=Eq.trans rfl rfl
theorem rn_mv (x:SV):run P C (.ops (⟨d,.mv x,none⟩ :: r) :: k) objs tm F=run P C (.ops r :: k) objs (zaj tm d (x.ev tm)) F:=Eq.trans rfl rfl
def kPick (P:Program) [Tabs P] (C:Cx) (c x y:AV) (d:Option Nat) (r:List SO) (k:List IT) (objs:List OB) (tm:List AV) (F:zas):Prop :=
 match c with
 | .b t => (t=true → run P C (.ops r :: k) objs (zaj tm d x) F) ∧ (t=false → run P C (.ops r :: k) objs (zaj tm d y) F)
 | _ => False
theorem zip (x y:AV):kPick P C (.b true) x y d r k objs tm F=run P C (.ops r :: k) objs (zaj tm d x) F:=propext ⟨fun h => h.1 rfl,fun h => ⟨fun _ => h,fun e => absurd e.symm Bool.false_ne_true⟩⟩
theorem ziq (x y:AV):kPick P C (.b false) x y d r k objs tm F=run P C (.ops r :: k) objs (zaj tm d y) F:=propext ⟨fun h => h.2 rfl,fun h => ⟨fun e => absurd e Bool.false_ne_true,fun _ => h⟩⟩
theorem zhy (c x y:SV):run P C (.ops (⟨d,.pick c x y,none⟩ :: r) :: k) objs tm F=kPick P C (c.ev tm) (x.ev tm) (y.ev tm) d r k objs tm F:=Eq.trans rfl rfl
theorem zfx (T:Nat) (z:List AV):run P C (.ops (⟨d,.alloc T z,none⟩ :: r) :: k) objs tm F=run P C (.ops r :: k) (objs ++ [.box T z]) (zaj tm d (.p objs.length 0)) F:=Eq.trans rfl rfl
theorem rn_box (T:Nat) (x:SV):run P C (.ops (⟨d,.box T x,none⟩ :: r) :: k) objs tm F=((x.ev tm).flat=true ∧ run P C (.ops r :: k) (objs ++ [.box T (x.ev tm).cells]) (zaj tm d (.p objs.length 0)) F):=Eq.trans rfl rfl
theorem zfw (z:List AV) (ps:List (Nat × Nat × SV)):run P C (.ops (⟨d,.build z ps,none⟩ :: r) :: k) objs tm F=kO P C ((zaZ z (evp tm ps)).map .agg) d r k objs tm F:=by
 rw [zgg]
 rw [zaB]
 simp only [wpS]
 cases zaZ z (ps.map fun p => (p.1,p.2.1,p.2.2.ev tm)) <;> rfl
theorem zee (n:Nat) (z:List AV) (ps:List (Nat × Nat × SV)):run P C (.ops (⟨d,.bslice n z ps,none⟩ :: r) :: k) objs tm F=kO P C ((zaZ z (evp tm ps)).map (.row n)) d r k objs tm F:=by
 rw [zgg]
 rw [zaB]
 simp only [wpS]
 cases zaZ z (ps.map fun p => (p.1,p.2.1,p.2.2.ev tm)) <;> rfl
def kLit (P:Program) [Tabs P] (C:Cx) (c:Option (List AV)) (E sz n:Nat) (d:Option Nat) (r:List SO) (k:List IT) (objs:List OB) (tm:List AV) (F:zas):Prop :=
 match c with
 | some cs => cs.length=n * sz ∧ run P C (.ops r :: k) (objs ++ [.orow E sz 0 n cs]) (zaj tm d (.orow objs.length 0)) F
 | none => False
theorem kLit_s (cs:List AV) (E sz n:Nat):kLit P C (some cs) E sz n d r k objs tm F=(cs.length=n * sz ∧ run P C (.ops r :: k) (objs ++ [.orow E sz 0 n cs]) (zaj tm d (.orow objs.length 0)) F):=Eq.trans rfl rfl
theorem zhN (E sz n:Nat) (z:List AV) (ps:List (Nat × Nat × SV)):run P C (.ops (⟨d,.bslo E sz n z ps,none⟩ :: r) :: k) objs tm F=kLit P C (zaZ z (evp tm ps)) E sz n d r k objs tm F:=by
 rw [zgg]
 rw [zaB]
 simp only [wpS]
 cases zaZ z (ps.map fun p => (p.1,p.2.1,p.2.2.ev tm)) <;> rfl
def kLd1o (P:Program) [Tabs P] (C:Cx) (c:Option OB) (gen j:Nat) (d:Option Nat) (r:List SO) (k:List IT) (objs:List OB) (tm:List AV) (F:zas):Prop :=
 match c with
 | some (.orow _ _ gen' _ xs) => gen'=gen ∧ kO P C xs[j]? d r k objs tm F
 | _ => False
def kLd1 (P:Program) [Tabs P] (C:Cx) (v:AV) (d:Option Nat) (r:List SO) (k:List IT) (objs:List OB) (tm:List AV) (F:zas):Prop :=
 match v with
 | .p b off => kO P C ((bxs objs[b]?).bind fun cs => cs[off]?) d r k objs tm F
 | .prow xs j => kO P C xs[j]? d r k objs tm F
 | .porow b gen j => kLd1o P C objs[b]? gen j d r k objs tm F
 | _ => False
theorem ziA (E sz gen' n gen j:Nat) (xs:List AV):kLd1o P C (some (.orow E sz gen' n xs)) gen j d r k objs tm F=(gen'=gen ∧ kO P C xs[j]? d r k objs tm F):=Eq.trans rfl rfl
theorem kLd1_o (b gen j:Nat):kLd1 P C (.porow b gen j) d r k objs tm F=kLd1o P C objs[b]? gen j d r k objs tm F:=Eq.trans rfl rfl
theorem kLd1_p (b off:Nat):kLd1 P C (.p b off) d r k objs tm F=kO P C ((bxs objs[b]?).bind fun cs => cs[off]?) d r k objs tm F:=Eq.trans rfl rfl
theorem kLd1_r (xs:List AV) (j:Nat):kLd1 P C (.prow xs j) d r k objs tm F=kO P C xs[j]? d r k objs tm F:=Eq.trans rfl rfl
theorem zfq (x:SV):run P C (.ops (⟨d,.load1 x,none⟩ :: r) :: k) objs tm F=kLd1 P C (x.ev tm) d r k objs tm F:=by
 rw [zaB]
 simp only [wpS,kLd1]
 cases x.ev tm <;> try rfl
 case p b off =>
  dsimp only
  generalize objs[b]? = q
  cases q with
  | none => rfl
  | some ob =>
   cases ob <;> try rfl
   all_goals (dsimp only [bxs,Option.bind]; split <;> rfl)
 case prow xs j =>
  dsimp only
  cases hx:xs[j]? with
  | none => simp [kO]
  | some v => simp [kO]
 case porow b gen j =>
  dsimp only
  generalize objs[b]? = q
  cases q with
  | none => rfl
  | some ob =>
   cases ob <;> try rfl
   rename_i xs
   dsimp only [kLd1o]
   cases hx:xs[j]? with
   | none => simp [kO]
   | some v => simp [kO]
def kLdn (P:Program) [Tabs P] (C:Cx) (c:Option (List AV)) (off sz:Nat) (d:Option Nat) (r:List SO) (k:List IT) (objs:List OB) (tm:List AV) (F:zas):Prop :=
 match c with
 | some cs => off + sz ≤ cs.length ∧ run P C (.ops r :: k) objs (zaj tm d (.agg ((cs.drop off).take sz))) F
 | none => False
def kLdno (P:Program) [Tabs P] (C:Cx) (c:Option OB) (gen j sz:Nat) (d:Option Nat) (r:List SO) (k:List IT) (objs:List OB) (tm:List AV) (F:zas):Prop :=
 match c with
 | some (.orow _ _ gen' _ xs) => (gen'=gen ∧ j + sz ≤ xs.length) ∧ run P C (.ops r :: k) objs (zaj tm d (.agg ((xs.drop j).take sz))) F
 | _ => False
def kLdv (P:Program) [Tabs P] (C:Cx) (v:AV) (sz:Nat) (d:Option Nat) (r:List SO) (k:List IT) (objs:List OB) (tm:List AV) (F:zas):Prop :=
 match v with
 | .p b off => kLdn P C (bxs objs[b]?) off sz d r k objs tm F
 | .prow xs j => kLdn P C (some xs) j sz d r k objs tm F
 | .porow b gen j => kLdno P C objs[b]? gen j sz d r k objs tm F
 | _ => False
theorem ziz (E s gen' n gen j sz:Nat) (xs:List AV):kLdno P C (some (.orow E s gen' n xs)) gen j sz d r k objs tm F=((gen'=gen ∧ j + sz ≤ xs.length) ∧ run P C (.ops r :: k) objs (zaj tm d (.agg ((xs.drop j).take sz))) F):=Eq.trans rfl rfl
theorem kLdv_o (b gen j sz:Nat):kLdv P C (.porow b gen j) sz d r k objs tm F=kLdno P C objs[b]? gen j sz d r k objs tm F:=Eq.trans rfl rfl
theorem kLdn_s (cs:List AV) (off sz:Nat):kLdn P C (some cs) off sz d r k objs tm F=(off + sz ≤ cs.length ∧ run P C (.ops r :: k) objs (zaj tm d (.agg ((cs.drop off).take sz))) F):=Eq.trans rfl rfl
theorem kLdv_p (b off sz:Nat):kLdv P C (.p b off) sz d r k objs tm F=kLdn P C (bxs objs[b]?) off sz d r k objs tm F:=Eq.trans rfl rfl
theorem kLdv_r (xs:List AV) (j sz:Nat):kLdv P C (.prow xs j) sz d r k objs tm F=kLdn P C (some xs) j sz d r k objs tm F:=Eq.trans rfl rfl
theorem zfp (sz:Nat) (x:SV):run P C (.ops (⟨d,.loadn sz x,none⟩ :: r) :: k) objs tm F=kLdv P C (x.ev tm) sz d r k objs tm F:=by
 rw [zaB]
 simp only [wpS,kLdv]
 cases x.ev tm <;> try rfl
 try (case p b off =>
  dsimp only
  generalize objs[b]? = q
  cases q with
  | none => rfl
  | some ob => cases ob <;> rfl)
 try (case porow b gen j =>
  dsimp only
  generalize objs[b]? = q
  cases q with
  | none => rfl
  | some ob => cases ob <;> rfl)
def kSt2 (P:Program) [Tabs P] (C:Cx) (c:Option OB) (b off sz:Nat) (v:AV) (d:Option Nat) (r:List SO) (k:List IT) (objs:List OB) (tm:List AV) (F:zas):Prop :=
 match c with
 | some (.box T cs) => (v.flat=true ∧ v.cells.length=sz ∧ off + sz ≤ cs.length) ∧ run P C (.ops r :: k) (objs.set b (.box T (zav cs off v.cells))) (zaj tm d .u) F
 | _ => False
def kSt3 (P:Program) [Tabs P] (C:Cx) (c:Option OB) (b gen j sz:Nat) (v:AV) (d:Option Nat) (r:List SO) (k:List IT) (objs:List OB) (tm:List AV) (F:zas):Prop :=
 match c with
 | some (.orow E s gen' n xs) => (gen'=gen ∧ v.flat=true ∧ v.cells.length=sz ∧ j + sz ≤ xs.length) ∧ run P C (.ops r :: k) (objs.set b (.orow E s gen' n (zav xs j v.cells))) (zaj tm d .u) F
 | _ => False
def kSt (P:Program) [Tabs P] (C:Cx) (p v:AV) (sz:Nat) (d:Option Nat) (r:List SO) (k:List IT) (objs:List OB) (tm:List AV) (F:zas):Prop :=
 match p with
 | .p b off => kSt2 P C objs[b]? b off sz v d r k objs tm F
 | .porow b gen j => kSt3 P C objs[b]? b gen j sz v d r k objs tm F
 | _ => False
theorem kSt3_o (E s gen' n:Nat) (xs:List AV) (b gen j sz:Nat) (v:AV):kSt3 P C (some (.orow E s gen' n xs)) b gen j sz v d r k objs tm F=((gen'=gen ∧ v.flat=true ∧ v.cells.length=sz ∧ j + sz ≤ xs.length) ∧ run P C (.ops r :: k) (objs.set b (.orow E s gen' n (zav xs j v.cells))) (zaj tm d .u) F):=Eq.trans rfl rfl
theorem kSt_o (b gen j sz:Nat) (v:AV):kSt P C (.porow b gen j) v sz d r k objs tm F=kSt3 P C objs[b]? b gen j sz v d r k objs tm F:=Eq.trans rfl rfl
theorem kSt2_b (T:TypeId) (cs:List AV) (b off sz:Nat) (v:AV):kSt2 P C (some (.box T cs)) b off sz v d r k objs tm F=((v.flat=true ∧ v.cells.length=sz ∧ off + sz ≤ cs.length) ∧ run P C (.ops r :: k) (objs.set b (.box T (zav cs off v.cells))) (zaj tm d .u) F):=Eq.trans rfl rfl
theorem kSt_p (b off sz:Nat) (v:AV):kSt P C (.p b off) v sz d r k objs tm F=kSt2 P C objs[b]? b off sz v d r k objs tm F:=Eq.trans rfl rfl
theorem zfn (sz:Nat) (x y:SV):run P C (.ops (⟨d,.store sz x y,none⟩ :: r) :: k) objs tm F=kSt P C (x.ev tm) (y.ev tm) sz d r k objs tm F:=by
 rw [zaB]
 simp only [wpS,kSt]
 cases x.ev tm <;> try rfl
 try (case p b off =>
  dsimp only
  generalize objs[b]? = q
  cases q with
  | none => rfl
  | some ob => cases ob <;> rfl)
 try (case porow b gen j =>
  dsimp only
  generalize objs[b]? = q
  cases q with
  | none => rfl
  | some ob => cases ob <;> rfl)
def kNck (P:Program) [Tabs P] (C:Cx) (v:AV)  (d:Option Nat) (r:List SO) (k:List IT) (objs:List OB) (tm:List AV) (F:zas):Prop :=
 match v with
 | .p b o => run P C (.ops r :: k) objs (zaj tm d (.p b o)) F
 | .prow xs j => run P C (.ops r :: k) objs (zaj tm d (.prow xs j)) F
 | .fn f fs cs => run P C (.ops r :: k) objs (zaj tm d (.fn f fs cs)) F
 | .porow b gen j => run P C (.ops r :: k) objs (zaj tm d (.porow b gen j)) F
 | _ => False
theorem kNck_0 (b o:Nat) :kNck P C (.p b o)  d r k objs tm F=(run P C (.ops r :: k) objs (zaj tm d (.p b o)) F):=Eq.trans rfl rfl
theorem kNck_1 (xs:List AV) (j:Nat) :kNck P C (.prow xs j)  d r k objs tm F=(run P C (.ops r :: k) objs (zaj tm d (.prow xs j)) F):=Eq.trans rfl rfl
theorem kNck_2 (f:Nat) (fs cs:List AV) :kNck P C (.fn f fs cs)  d r k objs tm F=(run P C (.ops r :: k) objs (zaj tm d (.fn f fs cs)) F):=Eq.trans rfl rfl
theorem kNck_3 (b gen j:Nat) :kNck P C (.porow b gen j)  d r k objs tm F=(run P C (.ops r :: k) objs (zaj tm d (.porow b gen j)) F):=Eq.trans rfl rfl
theorem rn_nck (x:SV):run P C (.ops (⟨d,.nck x,none⟩ :: r) :: k) objs tm F=kNck P C (x.ev tm)  d r k objs tm F:=by
 rw [zaB]
 simp only [wpS,kNck]
 cases (x.ev tm) <;> rfl
def kNot (P:Program) [Tabs P] (C:Cx) (v:AV)  (d:Option Nat) (r:List SO) (k:List IT) (objs:List OB) (tm:List AV) (F:zas):Prop :=
 match v with
 | .b t => run P C (.ops r :: k) objs (zaj tm d (.b (!t))) F
 | _ => False
theorem kNot_0 (t:Bool) :kNot P C (.b t)  d r k objs tm F=(run P C (.ops r :: k) objs (zaj tm d (.b (!t))) F):=Eq.trans rfl rfl
theorem rn_not (x:SV):run P C (.ops (⟨d,.not x,none⟩ :: r) :: k) objs tm F=kNot P C (x.ev tm)  d r k objs tm F:=by
 rw [zaB]
 simp only [wpS,kNot]
 cases (x.ev tm) <;> rfl
def kAr (P:Program) [Tabs P] (C:Cx) (q:IntKind) (z:Int) (d:Option Nat) (r:List SO) (k:List IT) (objs:List OB) (tm:List AV) (F:zas):Prop:=arK q z fun z => run P C (.ops r :: k) objs (zaj tm d (.i q z)) F
theorem ziL (z:Int):kAr P C .i64 z d r k objs tm F=((-9223372036854775808 ≤ z ∧ z ≤ 9223372036854775807) ∧ run P C (.ops r :: k) objs (zaj tm d (.i .i64 z)) F):=Eq.trans rfl rfl
theorem kAr_i8 (z:Int):kAr P C .i8 z d r k objs tm F=run P C (.ops r :: k) objs (zaj tm d (.i .i8 (IntKind.wrap .i8 z))) F:=Eq.trans rfl rfl
theorem ziN (z:Int):kAr P C .i16 z d r k objs tm F=run P C (.ops r :: k) objs (zaj tm d (.i .i16 (IntKind.wrap .i16 z))) F:=Eq.trans rfl rfl
theorem ziM (z:Int):kAr P C .i32 z d r k objs tm F=run P C (.ops r :: k) objs (zaj tm d (.i .i32 (IntKind.wrap .i32 z))) F:=Eq.trans rfl rfl
theorem kAr_u8 (z:Int):kAr P C .u8 z d r k objs tm F=run P C (.ops r :: k) objs (zaj tm d (.i .u8 (IntKind.wrap .u8 z))) F:=Eq.trans rfl rfl
theorem ziK (z:Int):kAr P C .u16 z d r k objs tm F=run P C (.ops r :: k) objs (zaj tm d (.i .u16 (IntKind.wrap .u16 z))) F:=Eq.trans rfl rfl
theorem ziJ (z:Int):kAr P C .u32 z d r k objs tm F=run P C (.ops r :: k) objs (zaj tm d (.i .u32 (IntKind.wrap .u32 z))) F:=Eq.trans rfl rfl
theorem ziI (z:Int):kAr P C .u64 z d r k objs tm F=run P C (.ops r :: k) objs (zaj tm d (.i .u64 (IntKind.wrap .u64 z))) F:=Eq.trans rfl rfl
def kNeg (P:Program) [Tabs P] (C:Cx) (v:AV)  (d:Option Nat) (r:List SO) (k:List IT) (objs:List OB) (tm:List AV) (F:zas):Prop :=
 match v with
 | .i q n => kAr P C q (0 - n) d r k objs tm F
 | _ => False
theorem kNeg_0 (q:IntKind) (n:Int) :kNeg P C (.i q n)  d r k objs tm F=(kAr P C q (0 - n) d r k objs tm F):=Eq.trans rfl rfl
theorem rn_neg (x:SV):run P C (.ops (⟨d,.neg x,none⟩ :: r) :: k) objs tm F=kNeg P C (x.ev tm)  d r k objs tm F:=by
 rw [zaB]
 simp only [wpS,kNeg,kAr]
 cases x.ev tm <;> rfl
def kCvi (P:Program) [Tabs P] (C:Cx) (v:AV) (q:IntKind) (d:Option Nat) (r:List SO) (k:List IT) (objs:List OB) (tm:List AV) (F:zas):Prop :=
 match v with
 | .i kk n => run P C (.ops r :: k) objs (zaj tm d (.i q (q.wrap n))) F
 | _ => False
theorem kCvi_0 (kk:IntKind) (n:Int) (q:IntKind):kCvi P C (.i kk n) q d r k objs tm F=(run P C (.ops r :: k) objs (zaj tm d (.i q (q.wrap n))) F):=Eq.trans rfl rfl
theorem rn_cvi (q:IntKind) (x:SV):run P C (.ops (⟨d,.cvi q x,none⟩ :: r) :: k) objs tm F=kCvi P C (x.ev tm) q d r k objs tm F:=by
 rw [zaB]
 simp only [wpS,kCvi]
 cases (x.ev tm) <;> rfl
def kCvs (P:Program) [Tabs P] (C:Cx) (v:AV)  (d:Option Nat) (r:List SO) (k:List IT) (objs:List OB) (tm:List AV) (F:zas):Prop :=
 match v with
 | .s l => run P C (.ops r :: k) objs (zaj tm d (.s l)) F
 | _ => False
theorem kCvs_0 (l:List UInt8) :kCvs P C (.s l)  d r k objs tm F=(run P C (.ops r :: k) objs (zaj tm d (.s l)) F):=Eq.trans rfl rfl
theorem rn_cvs (x:SV):run P C (.ops (⟨d,.cvs x,none⟩ :: r) :: k) objs tm F=kCvs P C (x.ev tm)  d r k objs tm F:=by
 rw [zaB]
 simp only [wpS,kCvs]
 cases (x.ev tm) <;> rfl
def kLens (P:Program) [Tabs P] (C:Cx) (v:AV)  (d:Option Nat) (r:List SO) (k:List IT) (objs:List OB) (tm:List AV) (F:zas):Prop :=
 match v with
 | .s l => run P C (.ops r :: k) objs (zaj tm d (.i .i64 l.length)) F
 | _ => False
theorem ziu (l:List UInt8) :kLens P C (.s l)  d r k objs tm F=(run P C (.ops r :: k) objs (zaj tm d (.i .i64 l.length)) F):=Eq.trans rfl rfl
theorem zhB (x:SV):run P C (.ops (⟨d,.lens x,none⟩ :: r) :: k) objs tm F=kLens P C (x.ev tm)  d r k objs tm F:=by
 rw [zaB]
 simp only [wpS,kLens]
 cases (x.ev tm) <;> rfl
def kFldn (P:Program) [Tabs P] (C:Cx) (v:AV) (off sz:Nat) (d:Option Nat) (r:List SO) (k:List IT) (objs:List OB) (tm:List AV) (F:zas):Prop :=
 match v with
 | .agg cs => run P C (.ops r :: k) objs (zaj tm d (.agg ((cs.drop off).take sz))) F
 | _ => False
theorem ziE (cs:List AV) (off sz:Nat):kFldn P C (.agg cs) off sz d r k objs tm F=(run P C (.ops r :: k) objs (zaj tm d (.agg ((cs.drop off).take sz))) F):=Eq.trans rfl rfl
theorem zhF (off sz:Nat) (x:SV):run P C (.ops (⟨d,.fldn off sz x,none⟩ :: r) :: k) objs tm F=kFldn P C (x.ev tm) off sz d r k objs tm F:=by
 rw [zaB]
 simp only [wpS,kFldn]
 cases (x.ev tm) <;> rfl
def kFad (P:Program) [Tabs P] (C:Cx) (v:AV) (off:Nat) (d:Option Nat) (r:List SO) (k:List IT) (objs:List OB) (tm:List AV) (F:zas):Prop :=
 match v with
 | .p b o => run P C (.ops r :: k) objs (zaj tm d (.p b (o + off))) F
 | .prow xs j => run P C (.ops r :: k) objs (zaj tm d (.prow xs (j + off))) F
 | .porow b gen j => run P C (.ops r :: k) objs (zaj tm d (.porow b gen (j + off))) F
 | _ => False
theorem kFad_0 (b o:Nat) (off:Nat):kFad P C (.p b o) off d r k objs tm F=(run P C (.ops r :: k) objs (zaj tm d (.p b (o + off))) F):=Eq.trans rfl rfl
theorem kFad_1 (xs:List AV) (j:Nat) (off:Nat):kFad P C (.prow xs j) off d r k objs tm F=(run P C (.ops r :: k) objs (zaj tm d (.prow xs (j + off))) F):=Eq.trans rfl rfl
theorem kFad_2 (b gen j:Nat) (off:Nat):kFad P C (.porow b gen j) off d r k objs tm F=(run P C (.ops r :: k) objs (zaj tm d (.porow b gen (j + off))) F):=Eq.trans rfl rfl
theorem rn_fad (off:Nat) (x:SV):run P C (.ops (⟨d,.fad off x,none⟩ :: r) :: k) objs tm F=kFad P C (x.ev tm) off d r k objs tm F:=by
 rw [zaB]
 simp only [wpS,kFad]
 cases (x.ev tm) <;> rfl
def kFld1 (P:Program) [Tabs P] (C:Cx) (v:AV) (off:Nat) (d:Option Nat) (r:List SO) (k:List IT) (objs:List OB) (tm:List AV) (F:zas):Prop :=
 match v with
 | .agg cs => kO P C cs[off]? d r k objs tm F
 | _ => False
theorem ziF (cs:List AV) (off:Nat):kFld1 P C (.agg cs) off d r k objs tm F=(kO P C cs[off]? d r k objs tm F):=Eq.trans rfl rfl
theorem zhG (off:Nat) (x:SV):run P C (.ops (⟨d,.fld1 off x,none⟩ :: r) :: k) objs tm F=kFld1 P C (x.ev tm) off d r k objs tm F:=by
 rw [zaB]
 simp only [wpS,kFld1]
 cases x.ev tm <;> try rfl
 try (case agg cs => dsimp only; cases cs[off]? <;> rfl)
def kExt (P:Program) [Tabs P] (C:Cx) (v:AV) (j:Nat) (d:Option Nat) (r:List SO) (k:List IT) (objs:List OB) (tm:List AV) (F:zas):Prop :=
 match v with
 | .tup cs => kO P C cs[j]? d r k objs tm F
 | _ => False
theorem kExt_0 (cs:List AV) (j:Nat):kExt P C (.tup cs) j d r k objs tm F=(kO P C cs[j]? d r k objs tm F):=Eq.trans rfl rfl
theorem rn_ext (x:SV) (j:Nat):run P C (.ops (⟨d,.ext x j,none⟩ :: r) :: k) objs tm F=kExt P C (x.ev tm) j d r k objs tm F:=by
 rw [zaB]
 simp only [wpS,kExt]
 cases x.ev tm <;> try rfl
 try (case tup cs => dsimp only; cases cs[j]? <;> rfl)
def kLr2 (P:Program) [Tabs P] (C:Cx) (c:Option OB) (gen:Nat) (d:Option Nat) (r:List SO) (k:List IT) (objs:List OB) (tm:List AV) (F:zas):Prop :=
 match c with
 | some (.orow _ _ gen' n _) => gen'=gen ∧ run P C (.ops r :: k) objs (zaj tm d (.i .i64 n)) F
 | _ => False
theorem kLr2_o (E sz gen' n gen:Nat) (xs:List AV):kLr2 P C (some (.orow E sz gen' n xs)) gen d r k objs tm F=(gen'=gen ∧ run P C (.ops r :: k) objs (zaj tm d (.i .i64 n)) F):=Eq.trans rfl rfl
def zgV (P:Program) [Tabs P] (C:Cx) (v:AV)  (d:Option Nat) (r:List SO) (k:List IT) (objs:List OB) (tm:List AV) (F:zas):Prop :=
 match v with
 | .row n xs => run P C (.ops r :: k) objs (zaj tm d (.i .i64 n)) F
 | .nil => run P C (.ops r :: k) objs (zaj tm d (.i .i64 0)) F
 | .orow b gen => kLr2 P C objs[b]? gen d r k objs tm F
 | .zn z => run P C (.ops r :: k) objs (zaj tm d (.i .i64 0)) F
 | _ => False
theorem ziy (n:Nat) (xs:List AV) :zgV P C (.row n xs)  d r k objs tm F=(run P C (.ops r :: k) objs (zaj tm d (.i .i64 n)) F):=Eq.trans rfl rfl
theorem zix  :zgV P C (.nil)  d r k objs tm F=(run P C (.ops r :: k) objs (zaj tm d (.i .i64 0)) F):=Eq.trans rfl rfl
theorem ziw (b gen:Nat) :zgV P C (.orow b gen)  d r k objs tm F=(kLr2 P C objs[b]? gen d r k objs tm F):=Eq.trans rfl rfl
theorem ziv (z:Bool) :zgV P C (.zn z)  d r k objs tm F=(run P C (.ops r :: k) objs (zaj tm d (.i .i64 0)) F):=Eq.trans rfl rfl
theorem zhC (x:SV):run P C (.ops (⟨d,.lenr x,none⟩ :: r) :: k) objs tm F=zgV P C (x.ev tm)  d r k objs tm F:=by
 rw [zaB]
 simp only [wpS,zgV]
 cases x.ev tm <;> try rfl
 try (case orow b gen =>
  dsimp only
  generalize objs[b]? = q
  cases q with
  | none => rfl
  | some ob => cases ob <;> rfl)
def kBeq (P:Program) [Tabs P] (C:Cx) (ne:Bool) (x y:AV) (d:Option Nat) (r:List SO) (k:List IT) (objs:List OB) (tm:List AV) (F:zas):Prop :=
 match x,y with
 | .b l,.b m => run P C (.ops r :: k) objs (zaj tm d (.b (if ne then !(l == m) else (l == m)))) F
 | _,_ => False
def kEq (P:Program) [Tabs P] (C:Cx) (ne:Bool) (x:Option Bool) (d:Option Nat) (r:List SO) (k:List IT) (objs:List OB) (tm:List AV) (F:zas):Prop :=
 match x with
 | some q => run P C (.ops r :: k) objs (zaj tm d (.b (if ne then !q else q))) F
 | none => False
def kEqs (P:Program) [Tabs P] (C:Cx) (ne:Bool) (e:ET) (x y:AV) (d:Option Nat) (r:List SO) (k:List IT) (objs:List OB) (tm:List AV) (F:zas):Prop :=
 match x,y with
 | .agg xs,.agg ys => kEq P C ne (eqA e (.agg xs) (.agg ys)) d r k objs tm F
 | _,_ => False
theorem zem (l m:Bool):kBeq P C true (.b l) (.b m) d r k objs tm F=run P C (.ops r :: k) objs (zaj tm d (.b (!(l == m)))) F:=Eq.trans rfl rfl
theorem zfP (q:Bool):kEq P C true (some q) d r k objs tm F=run P C (.ops r :: k) objs (zaj tm d (.b (!q))) F:=Eq.trans rfl rfl
theorem zdp (l m:Bool):kBeq P C false (.b l) (.b m) d r k objs tm F=run P C (.ops r :: k) objs (zaj tm d (.b (l == m))) F:=Eq.trans rfl rfl
theorem zel (q:Bool):kEq P C false (some q) d r k objs tm F=run P C (.ops r :: k) objs (zaj tm d (.b q)) F:=Eq.trans rfl rfl
theorem kEqs_a (ne:Bool) (e:ET) (xs ys:List AV):kEqs P C ne e (.agg xs) (.agg ys) d r k objs tm F=kEq P C ne (eqA e (.agg xs) (.agg ys)) d r k objs tm F:=Eq.trans rfl rfl
theorem rn_beq (ne:Bool) (x y:SV):run P C (.ops (⟨d,.beq ne x y,none⟩ :: r) :: k) objs tm F=kBeq P C ne (x.ev tm) (y.ev tm) d r k objs tm F:=by
 rw [zaB]
 simp only [wpS,kBeq]
 cases x.ev tm <;> try rfl
 try (cases y.ev tm <;> rfl)
theorem rn_eqs (ne:Bool) (e:ET) (x y:SV):run P C (.ops (⟨d,.eqs ne e x y,none⟩ :: r) :: k) objs tm F=kEqs P C ne e (x.ev tm) (y.ev tm) d r k objs tm F:=by
 rw [zaB]
 simp only [wpS,kEqs]
 cases x.ev tm <;> try rfl
 try (cases y.ev tm <;> try rfl)
 try (simp only [kEq]; cases eqA e _ _ <;> rfl)
def kIado (P:Program) [Tabs P] (C:Cx) (c:Option OB) (b gen:Nat) (i:Int) (sz:Nat) (d:Option Nat) (r:List SO) (k:List IT) (objs:List OB) (tm:List AV) (F:zas):Prop :=
 match c with
 | some (.orow _ s gen' n _) => (gen'=gen ∧ s=sz ∧ 0 ≤ i ∧ i < n) ∧ run P C (.ops r :: k) objs (zaj tm d (.porow b gen (i.toNat * sz))) F
 | _ => False
theorem ziC (E s gen' n:Nat) (xs:List AV) (b gen:Nat) (i:Int) (sz:Nat):kIado P C (some (.orow E s gen' n xs)) b gen i sz d r k objs tm F=((gen'=gen ∧ s=sz ∧ 0 ≤ i ∧ i < n) ∧ run P C (.ops r :: k) objs (zaj tm d (.porow b gen (i.toNat * sz))) F):=Eq.trans rfl rfl
def kIad (P:Program) [Tabs P] (C:Cx) (x y:AV) (sz:Nat) (d:Option Nat) (r:List SO) (k:List IT) (objs:List OB) (tm:List AV) (F:zas):Prop :=
 match x,y with
 | .row n xs,.i kk i => (0 ≤ i ∧ i < n ∧ n * sz ≤ xs.length) ∧ run P C (.ops r :: k) objs (zaj tm d (.prow xs (i.toNat * sz))) F
 | .orow b gen,.i kk i => kIado P C objs[b]? b gen i sz d r k objs tm F
 | _,_ => False
theorem kIad_0 (n:Nat) (xs:List AV) (kk:IntKind) (i:Int) (sz:Nat):kIad P C (.row n xs) (.i kk i) sz d r k objs tm F=((0 ≤ i ∧ i < n ∧ n * sz ≤ xs.length) ∧ run P C (.ops r :: k) objs (zaj tm d (.prow xs (i.toNat * sz))) F):=Eq.trans rfl rfl
theorem kIad_1 (b gen:Nat) (kk:IntKind) (i:Int) (sz:Nat):kIad P C (.orow b gen) (.i kk i) sz d r k objs tm F=(kIado P C objs[b]? b gen i sz d r k objs tm F):=Eq.trans rfl rfl
theorem rn_iad (sz:Nat) (x y:SV):run P C (.ops (⟨d,.iad sz x y,none⟩ :: r) :: k) objs tm F=kIad P C (x.ev tm) (y.ev tm) sz d r k objs tm F:=by
 rw [zaB]
 simp only [wpS,kIad]
 cases x.ev tm <;> try rfl
 all_goals try (cases y.ev tm <;> try rfl)
 all_goals (
  dsimp only
  rename_i b gen _ _
  generalize objs[b]? = q
  cases q with
  | none => rfl
  | some ob => cases ob <;> rfl)
def kIadr (P:Program) [Tabs P] (C:Cx) (x y:AV) (sz:Nat) (d:Option Nat) (r:List SO) (k:List IT) (objs:List OB) (tm:List AV) (F:zas):Prop :=
 match x,y with
 | .row n xs,.i kk i => (0 ≤ i ∧ i < n ∧ n * sz ≤ xs.length) ∧ run P C (.ops r :: k) objs (zaj tm d (.prow xs (i.toNat * sz))) F
 | _,_ => False
theorem ziB (n:Nat) (xs:List AV) (kk:IntKind) (i:Int) (sz:Nat):kIadr P C (.row n xs) (.i kk i) sz d r k objs tm F=((0 ≤ i ∧ i < n ∧ n * sz ≤ xs.length) ∧ run P C (.ops r :: k) objs (zaj tm d (.prow xs (i.toNat * sz))) F):=Eq.trans rfl rfl
theorem zhD (sz:Nat) (x y:SV):run P C (.ops (⟨d,.iadr sz x y,none⟩ :: r) :: k) objs tm F=kIadr P C (x.ev tm) (y.ev tm) sz d r k objs tm F:=by
 rw [zaB]
 simp only [wpS,kIadr]
 cases x.ev tm <;> try rfl
 try (cases y.ev tm <;> rfl)
def kIada (P:Program) [Tabs P] (C:Cx) (x y:AV) (sz len:Nat) (d:Option Nat) (r:List SO) (k:List IT) (objs:List OB) (tm:List AV) (F:zas):Prop :=
 match x,y with
 | .p b off,.i kk i => (0 ≤ i ∧ i < len) ∧ run P C (.ops r :: k) objs (zaj tm d (.p b (off + i.toNat * sz))) F
 | _,_ => False
theorem ziD (b off:Nat) (kk:IntKind) (i:Int) (sz len:Nat):kIada P C (.p b off) (.i kk i) sz len d r k objs tm F=((0 ≤ i ∧ i < len) ∧ run P C (.ops r :: k) objs (zaj tm d (.p b (off + i.toNat * sz))) F):=Eq.trans rfl rfl
theorem zhE (sz len:Nat) (x y:SV):run P C (.ops (⟨d,.iada sz len x y,none⟩ :: r) :: k) objs tm F=kIada P C (x.ev tm) (y.ev tm) sz len d r k objs tm F:=by
 rw [zaB]
 simp only [wpS,kIada]
 cases x.ev tm <;> try rfl
 try (cases y.ev tm <;> rfl)
def kIdx (P:Program) [Tabs P] (C:Cx) (x y:AV)  (d:Option Nat) (r:List SO) (k:List IT) (objs:List OB) (tm:List AV) (F:zas):Prop :=
 match x,y with
 | .s l,.i kk i => (0 ≤ i ∧ i < l.length) ∧ run P C (.ops r :: k) objs (zaj tm d (.i .u8 ((l.getD i.toNat 0).toNat:Int))) F
 | _,_ => False
theorem kIdx_0 (l:List UInt8) (kk:IntKind) (i:Int) :kIdx P C (.s l) (.i kk i)  d r k objs tm F=((0 ≤ i ∧ i < l.length) ∧ run P C (.ops r :: k) objs (zaj tm d (.i .u8 ((l.getD i.toNat 0).toNat:Int))) F):=Eq.trans rfl rfl
theorem rn_idx (x y:SV):run P C (.ops (⟨d,.idx x y,none⟩ :: r) :: k) objs tm F=kIdx P C (x.ev tm) (y.ev tm)  d r k objs tm F:=by
 rw [zaB]
 simp only [wpS,kIdx]
 cases x.ev tm <;> try rfl
 try (cases y.ev tm <;> rfl)
def kTrno (P:Program) [Tabs P] (C:Cx) (c:Option OB) (b gen:Nat) (i:Int) (sz:Nat) (d:Option Nat) (r:List SO) (k:List IT) (objs:List OB) (tm:List AV) (F:zas):Prop :=
 match c with
 | some (.orow E s gen' n xs) => (gen'=gen ∧ s=sz ∧ 0 ≤ i ∧ i ≤ n) ∧ run P C (.ops r :: k) (objs.set b (.orow E s (gen + 1) i.toNat (xs.take (i.toNat * s)))) (zaj tm d (.orow b (gen + 1))) F
 | _ => False
theorem zio (E s gen' n:Nat) (xs:List AV) (b gen:Nat) (i:Int) (sz:Nat):kTrno P C (some (.orow E s gen' n xs)) b gen i sz d r k objs tm F=((gen'=gen ∧ s=sz ∧ 0 ≤ i ∧ i ≤ n) ∧ run P C (.ops r :: k) (objs.set b (.orow E s (gen + 1) i.toNat (xs.take (i.toNat * s)))) (zaj tm d (.orow b (gen + 1))) F):=Eq.trans rfl rfl
def kTrn (P:Program) [Tabs P] (C:Cx) (x y:AV) (sz:Nat) (d:Option Nat) (r:List SO) (k:List IT) (objs:List OB) (tm:List AV) (F:zas):Prop :=
 match x,y with
 | .row n xs,.i kk i => (0 ≤ i ∧ i ≤ n) ∧ run P C (.ops r :: k) objs (zaj tm d (.row i.toNat (xs.take (i.toNat * sz)))) F
 | .nil,.i kk i => i=0 ∧ run P C (.ops r :: k) objs (zaj tm d .nil) F
 | .orow b gen,.i kk i => kTrno P C objs[b]? b gen i sz d r k objs tm F
 | _,_ => False
theorem kTrn_0 (n:Nat) (xs:List AV) (kk:IntKind) (i:Int) (sz:Nat):kTrn P C (.row n xs) (.i kk i) sz d r k objs tm F=((0 ≤ i ∧ i ≤ n) ∧ run P C (.ops r :: k) objs (zaj tm d (.row i.toNat (xs.take (i.toNat * sz)))) F):=Eq.trans rfl rfl
theorem kTrn_1 (kk:IntKind) (i:Int) (sz:Nat):kTrn P C (.nil) (.i kk i) sz d r k objs tm F=(i=0 ∧ run P C (.ops r :: k) objs (zaj tm d .nil) F):=Eq.trans rfl rfl
theorem kTrn_2 (b gen:Nat) (kk:IntKind) (i:Int) (sz:Nat):kTrn P C (.orow b gen) (.i kk i) sz d r k objs tm F=(kTrno P C objs[b]? b gen i sz d r k objs tm F):=Eq.trans rfl rfl
theorem rn_trn (sz:Nat) (x y:SV):run P C (.ops (⟨d,.trn sz x y,none⟩ :: r) :: k) objs tm F=kTrn P C (x.ev tm) (y.ev tm) sz d r k objs tm F:=by
 rw [zaB]
 simp only [wpS,kTrn]
 cases x.ev tm <;> try rfl
 all_goals try (cases y.ev tm <;> try rfl)
 all_goals (
  dsimp only
  rename_i b gen _ _
  generalize objs[b]? = q
  cases q with
  | none => rfl
  | some ob => cases ob <;> rfl)
def kMks (P:Program) [Tabs P] (C:Cx) (x y:AV) (E sz by':Nat) (d:Option Nat) (r:List SO) (k:List IT) (objs:List OB) (tm:List AV) (F:zas):Prop :=
 match x,y with
 | .i k1 l,.i k2 c => (l=0 ∧ 0 ≤ c ∧ (by':Int) * c ≤ 281474976710656 ∧ c ≤ 140737488351232 + 4096) ∧ run P C (.ops r :: k) (objs ++ [.orow E sz 0 0 []]) (zaj tm d (.orow objs.length 0)) F
 | _,_ => False
theorem kMks_0 (k1:IntKind) (l:Int) (k2:IntKind) (c:Int) (E sz by':Nat):kMks P C (.i k1 l) (.i k2 c) E sz by' d r k objs tm F=((l=0 ∧ 0 ≤ c ∧ (by':Int) * c ≤ 281474976710656 ∧ c ≤ 140737488351232 + 4096) ∧ run P C (.ops r :: k) (objs ++ [.orow E sz 0 0 []]) (zaj tm d (.orow objs.length 0)) F):=Eq.trans rfl rfl
theorem rn_mks (E sz by':Nat) (x y:SV):run P C (.ops (⟨d,.mks E sz by' x y,none⟩ :: r) :: k) objs tm F=kMks P C (x.ev tm) (y.ev tm) E sz by' d r k objs tm F:=by
 rw [zaB]
 simp only [wpS,kMks,show (140737488351232 + 4096:Int)=140737488355328 from rfl]
 cases x.ev tm <;> try rfl
 try (cases y.ev tm <;> rfl)
def kMkz (P:Program) [Tabs P] (C:Cx) (x:AV) (E by':Nat) (kd:IntKind) (z:Int) (d:Option Nat) (r:List SO) (k:List IT) (objs:List OB) (tm:List AV) (F:zas):Prop :=
 match x with
 | .i _ l => (0 ≤ l ∧ (by':Int) * l ≤ 281474976710656 ∧ l ≤ 140737488355328) ∧ run P C (.ops r :: k) (objs ++ [.orow E 1 0 l.toNat (List.replicate l.toNat (.i kd z))]) (zaj tm d (.orow objs.length 0)) F
 | _ => False
theorem kMkz_i (q:IntKind) (l:Int) (E by':Nat) (kd:IntKind) (z:Int):kMkz P C (.i q l) E by' kd z d r k objs tm F=((0 ≤ l ∧ (by':Int) * l ≤ 281474976710656 ∧ l ≤ 140737488355328) ∧ run P C (.ops r :: k) (objs ++ [.orow E 1 0 l.toNat (List.replicate l.toNat (.i kd z))]) (zaj tm d (.orow objs.length 0)) F):=Eq.trans rfl rfl
theorem rn_mkz (E by':Nat) (kd:IntKind) (z:Int) (x:SV):run P C (.ops (⟨d,.mkz E by' kd z x,none⟩ :: r) :: k) objs tm F=kMkz P C (x.ev tm) E by' kd z d r k objs tm F:=by
 rw [zaB]
 simp only [wpS,kMkz]
 cases x.ev tm <;> rfl
def kCap (P:Program) [Tabs P] (C:Cx) (v:AV) (s:Option (Nat × List AV)) (sz by':Nat) (d:Option Nat) (r:List SO) (k:List IT) (objs:List OB) (tm:List AV) (F:zas):Prop :=
 match v,s with
 | .crow n xs,some (m,ys) => ((xs.length=n * sz ∧ ys.length=m * sz) ∧ 0 < m ∧ (n + m) * by' ≤ 140737488355328 ∧ n + m ≤ 140737488355328) ∧ run P C (.ops r :: k) objs (zaj tm d (.row (n + m) (xs ++ ys))) F
 | _,_ => False
theorem kCap_c (n m:Nat) (xs ys:List AV) (sz by':Nat):kCap P C (.crow n xs) (some (m,ys)) sz by' d r k objs tm F=(((xs.length=n * sz ∧ ys.length=m * sz) ∧ 0 < m ∧ (n + m) * by' ≤ 140737488355328 ∧ n + m ≤ 140737488355328) ∧ run P C (.ops r :: k) objs (zaj tm d (.row (n + m) (xs ++ ys))) F):=Eq.trans rfl rfl
theorem zhL (sz by':Nat) (x y:SV):run P C (.ops (⟨d,.capp sz by' x y,none⟩ :: r) :: k) objs tm F=kCap P C (x.ev tm) (zaT [] (y.ev tm)) sz by' d r k objs tm F:=by
 rw [zaB]
 simp only [wpS,kCap]
 cases x.ev tm <;> rfl
def kCao (P:Program) [Tabs P] (C:Cx) (v:AV) (s:Option (Nat × List AV)) (E sz by':Nat) (d:Option Nat) (r:List SO) (k:List IT) (objs:List OB) (tm:List AV) (F:zas):Prop :=
 match v,s with
 | .crow n xs,some (m,ys) => ((xs.length=n * sz ∧ ys.length=m * sz) ∧ 0 < m ∧ (n + m) * by' ≤ 140737488355328 ∧ n + m ≤ 140737488355328) ∧ run P C (.ops r :: k) (objs ++ [.orow E sz 0 (n + m) (xs ++ ys)]) (zaj tm d (.orow objs.length 0)) F
 | _,_ => False
theorem kCao_c (n m:Nat) (xs ys:List AV) (E sz by':Nat):kCao P C (.crow n xs) (some (m,ys)) E sz by' d r k objs tm F=(((xs.length=n * sz ∧ ys.length=m * sz) ∧ 0 < m ∧ (n + m) * by' ≤ 140737488355328 ∧ n + m ≤ 140737488355328) ∧ run P C (.ops r :: k) (objs ++ [.orow E sz 0 (n + m) (xs ++ ys)]) (zaj tm d (.orow objs.length 0)) F):=Eq.trans rfl rfl
theorem zfu (E sz by':Nat) (x y:SV):run P C (.ops (⟨d,.cappo E sz by' x y,none⟩ :: r) :: k) objs tm F=kCao P C (x.ev tm) (zaT objs (y.ev tm)) E sz by' d r k objs tm F:=by
 rw [zaB]
 simp only [wpS,kCao]
 cases x.ev tm <;> rfl
def zeU (P:Program) [Tabs P] (C:Cx) (op:BinOp) (x y:AV) (d:Option Nat) (r:List SO) (k:List IT) (objs:List OB) (tm:List AV) (F:zas):Prop:=zjW op x y fun v => run P C (.ops r :: k) objs (zaj tm d v) F
theorem rn_bin (q:BinOp) (x y:SV):run P C (.ops (⟨d,.bin q x y,none⟩ :: r) :: k) objs tm F=zeU P C q (x.ev tm) (y.ev tm) d r k objs tm F:=Eq.trans rfl rfl
theorem zf3 (q:IntKind) (m n:Int):zeU P C .add (.i q m) (.i q n) d r k objs tm F=kAr P C q (m + n) d r k objs tm F:=propext ⟨fun h => h.2,fun h => ⟨rfl,h⟩⟩
theorem zfQ (q:IntKind) (m n:Int):zeU P C .sub (.i q m) (.i q n) d r k objs tm F=kAr P C q (m - n) d r k objs tm F:=propext ⟨fun h => h.2,fun h => ⟨rfl,h⟩⟩
theorem zfW (q:IntKind) (m n:Int):zeU P C .mul (.i q m) (.i q n) d r k objs tm F=kAr P C q (m * n) d r k objs tm F:=propext ⟨fun h => h.2,fun h => ⟨rfl,h⟩⟩
theorem zfU (q:IntKind) (m n:Int):zeU P C .quo (.i q m) (.i q n) d r k objs tm F=(n ≠ 0 ∧ kAr P C q (m.tdiv n) d r k objs tm F):=propext ⟨fun h => h.2,fun h => ⟨rfl,h⟩⟩
theorem zfT (q:IntKind) (m n:Int):zeU P C .rem (.i q m) (.i q n) d r k objs tm F=(n ≠ 0 ∧ run P C (.ops r :: k) objs (zaj tm d (.i q (m.tmod n))) F):=propext ⟨fun h => h.2,fun h => ⟨rfl,h⟩⟩
theorem zf1 (q:IntKind) (m n:Int):zeU P C .eql (.i q m) (.i q n) d r k objs tm F=run P C (.ops r :: k) objs (zaj tm d (.b (decide (m=n)))) F:=propext ⟨fun h => h.2,fun h => ⟨rfl,h⟩⟩
theorem zfV (q:IntKind) (m n:Int):zeU P C .neq (.i q m) (.i q n) d r k objs tm F=run P C (.ops r :: k) objs (zaj tm d (.b (decide (¬ m=n)))) F:=propext ⟨fun h => h.2,fun h => ⟨rfl,h⟩⟩
theorem zfX (q:IntKind) (m n:Int):zeU P C .lss (.i q m) (.i q n) d r k objs tm F=run P C (.ops r :: k) objs (zaj tm d (.b (decide (m < n)))) F:=propext ⟨fun h => h.2,fun h => ⟨rfl,h⟩⟩
theorem zfY (q:IntKind) (m n:Int):zeU P C .leq (.i q m) (.i q n) d r k objs tm F=run P C (.ops r :: k) objs (zaj tm d (.b (decide (m ≤ n)))) F:=propext ⟨fun h => h.2,fun h => ⟨rfl,h⟩⟩
theorem zfZ (q:IntKind) (m n:Int):zeU P C .gtr (.i q m) (.i q n) d r k objs tm F=run P C (.ops r :: k) objs (zaj tm d (.b (decide (n < m)))) F:=propext ⟨fun h => h.2,fun h => ⟨rfl,h⟩⟩
theorem zf0 (q:IntKind) (m n:Int):zeU P C .geq (.i q m) (.i q n) d r k objs tm F=run P C (.ops r :: k) objs (zaj tm d (.b (decide (n ≤ m)))) F:=propext ⟨fun h => h.2,fun h => ⟨rfl,h⟩⟩
theorem zf2 (l m:List UInt8):zeU P C .add (.s l) (.s m) d r k objs tm F=(l.length + m.length ≤ 9223372036854775807 ∧ run P C (.ops r :: k) objs (zaj tm d (.s (l ++ m))) F):=Eq.trans rfl rfl
theorem zfS (l m:List UInt8):zeU P C .eql (.s l) (.s m) d r k objs tm F=run P C (.ops r :: k) objs (zaj tm d (.b (decide (l=m)))) F:=Eq.trans rfl rfl
theorem zfR (l m:List UInt8):zeU P C .neq (.s l) (.s m) d r k objs tm F=run P C (.ops r :: k) objs (zaj tm d (.b (decide (¬ l=m)))) F:=Eq.trans rfl rfl
def kSl2 (P:Program) [Tabs P] (C:Cx) (l:List UInt8) (i j:Option Int) (d:Option Nat) (r:List SO) (k:List IT) (objs:List OB) (tm:List AV) (F:zas):Prop :=
 match i,j with
 | some i,some j => (0 ≤ i ∧ i ≤ j ∧ j ≤ l.length) ∧ run P C (.ops r :: k) objs (zaj tm d (.s ((l.take j.toNat).drop i.toNat))) F
 | _,_ => False
def kSl (P:Program) [Tabs P] (C:Cx) (v:AV) (lo hi:Option SV) (d:Option Nat) (r:List SO) (k:List IT) (objs:List OB) (tm:List AV) (F:zas):Prop :=
 match v with
 | .s l => kSl2 P C l (zeG tm 0 lo) (zeG tm l.length hi) d r k objs tm F
 | _ => False
def svi:AV → Option Int
 | .i _ n => some n
 | _ => none
theorem svi_i (q:IntKind) (n:Int):svi (.i q n)=some n:=Eq.trans rfl rfl
theorem zd8 (z:Int):zeG tm z none=some z:=Eq.trans rfl rfl
theorem zd7 (z:Int) (x:SV):zeG tm z (some x)=svi (x.ev tm):=by
 simp only [zeG]; cases x.ev tm <;> rfl
theorem kSl2_s (l:List UInt8) (i j:Int):kSl2 P C l (some i) (some j) d r k objs tm F=((0 ≤ i ∧ i ≤ j ∧ j ≤ l.length) ∧ run P C (.ops r :: k) objs (zaj tm d (.s ((l.take j.toNat).drop i.toNat))) F):=Eq.trans rfl rfl
theorem kSl_s (l:List UInt8) (lo hi:Option SV):kSl P C (.s l) lo hi d r k objs tm F=kSl2 P C l (zeG tm 0 lo) (zeG tm l.length hi) d r k objs tm F:=Eq.trans rfl rfl
theorem zhw (x:SV) (lo hi:Option SV):run P C (.ops (⟨d,.slcs x lo hi,none⟩ :: r) :: k) objs tm F=kSl P C (x.ev tm) lo hi d r k objs tm F:=by
 rw [zaB]
 simp only [wpS,kSl]
 cases x.ev tm <;> try rfl
 try (case s l => dsimp only [kSl2]; cases zeG tm 0 lo <;> cases zeG tm l.length hi <;> rfl)
def kAp3 (P:Program) [Tabs P] (C:Cx) (c:Option OB) (b gen E sz by' m:Nat) (ys:List AV) (d:Option Nat) (r:List SO) (k:List IT) (objs:List OB) (tm:List AV) (F:zas):Prop :=
 match c with
 | some (.orow E' sz' gen' n xs) => ((E'=E ∧ sz'=sz ∧ gen'=gen) ∧ ys.length=m * sz ∧ (n + m) * by' ≤ 140737488355328 ∧ n + m ≤ 140737488355328) ∧ run P C (.ops r :: k) (objs.set b (.orow E sz (gen + 1) (n + m) (xs ++ ys))) (zaj tm d (.orow b (gen + 1))) F
 | _ => False
def kAp2 (P:Program) [Tabs P] (C:Cx) (v:AV) (E sz by' m:Nat) (ys:List AV) (d:Option Nat) (r:List SO) (k:List IT) (objs:List OB) (tm:List AV) (F:zas):Prop :=
 match v with
 | .orow b gen => kAp3 P C objs[b]? b gen E sz by' m ys d r k objs tm F
 | .nil => (ys.length=m * sz ∧ m * by' ≤ 140737488355328 ∧ m ≤ 140737488355328) ∧ run P C (.ops r :: k) (objs ++ [.orow E sz 0 m ys]) (zaj tm d (.orow objs.length 0)) F
 | _ => False
def kAp (P:Program) [Tabs P] (C:Cx) (v:AV) (s:Option (Nat × List AV)) (E sz by':Nat) (d:Option Nat) (r:List SO) (k:List IT) (objs:List OB) (tm:List AV) (F:zas):Prop :=
 match s with
 | some (m,ys) => kAp2 P C v E sz by' m ys d r k objs tm F
 | none => False
def kAs2 (P:Program) [Tabs P] (C:Cx) (c:Option OB) (b gen E:Nat) (l:List UInt8) (d:Option Nat) (r:List SO) (k:List IT) (objs:List OB) (tm:List AV) (F:zas):Prop :=
 match c with
 | some (.orow E' sz' gen' n xs) => ((E'=E ∧ sz'=1 ∧ gen'=gen) ∧ n + l.length ≤ 140737488355328) ∧ run P C (.ops r :: k) (objs.set b (.orow E 1 (gen + 1) (n + l.length) (xs ++ byA l))) (zaj tm d (.orow b (gen + 1))) F
 | _ => False
def kAs (P:Program) [Tabs P] (C:Cx) (v y:AV) (E:Nat) (d:Option Nat) (r:List SO) (k:List IT) (objs:List OB) (tm:List AV) (F:zas):Prop :=
 match y with
 | .s l => match v with
  | .orow b gen => kAs2 P C objs[b]? b gen E l d r k objs tm F
  | .nil => l.length ≤ 140737488355328 ∧ run P C (.ops r :: k) (objs ++ [.orow E 1 0 l.length (byA l)]) (zaj tm d (.orow objs.length 0)) F
  | _ => False
 | _ => False
theorem kAp_s (v:AV) (m:Nat) (ys:List AV) (E sz by':Nat):kAp P C v (some (m,ys)) E sz by' d r k objs tm F=kAp2 P C v E sz by' m ys d r k objs tm F:=Eq.trans rfl rfl
theorem kAp2_o (b gen E sz by' m:Nat) (ys:List AV):kAp2 P C (.orow b gen) E sz by' m ys d r k objs tm F=kAp3 P C objs[b]? b gen E sz by' m ys d r k objs tm F:=Eq.trans rfl rfl
theorem kAp2_n (E sz by' m:Nat) (ys:List AV):kAp2 P C .nil E sz by' m ys d r k objs tm F=((ys.length=m * sz ∧ m * by' ≤ 140737488355328 ∧ m ≤ 140737488355328) ∧ run P C (.ops r :: k) (objs ++ [.orow E sz 0 m ys]) (zaj tm d (.orow objs.length 0)) F):=Eq.trans rfl rfl
theorem kAp3_o (b gen E sz by' m n:Nat) (ys xs:List AV):kAp3 P C (some (.orow E sz gen n xs)) b gen E sz by' m ys d r k objs tm F=((ys.length=m * sz ∧ (n + m) * by' ≤ 140737488355328 ∧ n + m ≤ 140737488355328) ∧ run P C (.ops r :: k) (objs.set b (.orow E sz (gen + 1) (n + m) (xs ++ ys))) (zaj tm d (.orow b (gen + 1))) F):=propext ⟨fun h => ⟨h.1.2,h.2⟩,fun h => ⟨⟨⟨rfl,rfl,rfl⟩,h.1⟩,h.2⟩⟩
theorem kAs_o (b gen E:Nat) (l:List UInt8):kAs P C (.orow b gen) (.s l) E d r k objs tm F=kAs2 P C objs[b]? b gen E l d r k objs tm F:=Eq.trans rfl rfl
theorem kAs_n (E:Nat) (l:List UInt8):kAs P C .nil (.s l) E d r k objs tm F=(l.length ≤ 140737488355328 ∧ run P C (.ops r :: k) (objs ++ [.orow E 1 0 l.length (byA l)]) (zaj tm d (.orow objs.length 0)) F):=Eq.trans rfl rfl
theorem kAs2_o (b gen E n:Nat) (l:List UInt8) (xs:List AV):kAs2 P C (some (.orow E 1 gen n xs)) b gen E l d r k objs tm F=(n + l.length ≤ 140737488355328 ∧ run P C (.ops r :: k) (objs.set b (.orow E 1 (gen + 1) (n + l.length) (xs ++ byA l))) (zaj tm d (.orow b (gen + 1))) F):=propext ⟨fun h => ⟨h.1.2,h.2⟩,fun h => ⟨⟨⟨rfl,rfl,rfl⟩,h.1⟩,h.2⟩⟩
theorem rn_app (E sz by':Nat) (x y:SV):run P C (.ops (⟨d,.app E sz by' x y,none⟩ :: r) :: k) objs tm F=kAp P C (x.ev tm) (zaT objs (y.ev tm)) E sz by' d r k objs tm F:=by
 rw [zaB]
 simp only [wpS,kAp]
 cases hs:zaT objs (y.ev tm) with
 | none => rfl
 | some p =>
  obtain ⟨m,ys⟩:=p
  simp only [kAp2]
  cases x.ev tm <;> try rfl
  try (case orow b gen =>
   dsimp only [kAp3]
   generalize objs[b]? = q
   cases q with
   | none => rfl
   | some ob => cases ob <;> rfl)
theorem zhO (E:Nat) (x y:SV):run P C (.ops (⟨d,.apps E x y,none⟩ :: r) :: k) objs tm F=kAs P C (x.ev tm) (y.ev tm) E d r k objs tm F:=by
 rw [zaB]
 simp only [wpS,kAs]
 cases y.ev tm <;> try rfl
 try (case s l =>
  cases x.ev tm <;> try rfl
  try (case orow b gen =>
   dsimp only [kAs2]
   generalize objs[b]? = q
   cases q with
   | none => rfl
   | some ob => cases ob <;> rfl))
def kCb2 (P:Program) [Tabs P] (C:Cx) (c:Option OB) (gen:Nat) (d:Option Nat) (r:List SO) (k:List IT) (objs:List OB) (tm:List AV) (F:zas):Prop :=
 match c with
 | some (.orow _ sz gen' _ xs) => (gen'=gen ∧ sz=1) ∧ ∃ l,xs=byA l ∧ run P C (.ops r :: k) objs (zaj tm d (.s l)) F
 | _ => False
def kCb3 (P:Program) [Tabs P] (C:Cx) (c:Option OB) (off n:Nat) (d:Option Nat) (r:List SO) (k:List IT) (objs:List OB) (tm:List AV) (F:zas):Prop :=
 match c with
 | some (.box _ cs) => ∃ l,((cs.drop off).take n=byA l ∧ l.length=n) ∧ run P C (.ops r :: k) objs (zaj tm d (.s l)) F
 | _ => False
def kCb (P:Program) [Tabs P] (C:Cx) (v:AV) (d:Option Nat) (r:List SO) (k:List IT) (objs:List OB) (tm:List AV) (F:zas):Prop :=
 match v with
 | .orow b gen => kCb2 P C objs[b]? gen d r k objs tm F
 | .row n xs => ∃ l,(xs=byA l ∧ n=l.length) ∧ run P C (.ops r :: k) objs (zaj tm d (.s l)) F
 | .nil => run P C (.ops r :: k) objs (zaj tm d (.s [])) F
 | .bsl b off n => kCb3 P C objs[b]? off n d r k objs tm F
 | _ => False
theorem kCb_row (l:List UInt8) (n:Nat) (hn:n=l.length) (h:run P C (.ops r :: k) objs (zaj tm d (.s l)) F):kCb P C (.row n (byA l)) d r k objs tm F:=⟨l,⟨rfl,hn⟩,h⟩
theorem kCb_o (b gen:Nat):kCb P C (.orow b gen) d r k objs tm F=kCb2 P C objs[b]? gen d r k objs tm F:=Eq.trans rfl rfl
theorem kCb_n :kCb P C .nil d r k objs tm F=run P C (.ops r :: k) objs (zaj tm d (.s [])) F:=Eq.trans rfl rfl
theorem kCb_b (b off n:Nat):kCb P C (.bsl b off n) d r k objs tm F=kCb3 P C objs[b]? off n d r k objs tm F:=Eq.trans rfl rfl
theorem zhJ (x:SV):run P C (.ops (⟨d,.cvbs x,none⟩ :: r) :: k) objs tm F=kCb P C (x.ev tm) d r k objs tm F:=by
 rw [zaB]
 simp only [wpS,kCb]
 cases x.ev tm <;> try rfl
 try (case orow b gen =>
  dsimp only
  generalize objs[b]? = q
  cases q with
  | none => rfl
  | some ob => cases ob <;> rfl)
 try (case bsl b off n =>
  dsimp only
  generalize objs[b]? = q
  cases q with
  | none => rfl
  | some ob => cases ob <;> rfl)
theorem rn_mkf (f:Nat) (fs cs:List SV):run P C (.ops (⟨d,.mkf f fs cs,none⟩ :: r) :: k) objs tm F=run P C (.ops r :: k) objs (zaj tm d (.fn f (evs tm fs) (evs tm cs))) F:=by rw [zb4,zb4]; rfl
theorem kO_if (c:Prop) [Decidable c] (v:AV):kO P C (if c then some v else none) d r k objs tm F=(c ∧ run P C (.ops r :: k) objs (zaj tm d v) F):=by
 by_cases h:c
 ·simp [h,kO]
 ·simp [h,kO]
theorem pq_and (q:IntKind) (a b:Int):pq (.bits .and) [.i q a,.i q b]=some (.i q (q.wrap (BitVec.ofInt q.bits a &&& BitVec.ofInt q.bits b).toNat)):=by simp [pq,zg2]
theorem pq_or (q:IntKind) (a b:Int):pq (.bits .or) [.i q a,.i q b]=some (.i q (q.wrap (BitVec.ofInt q.bits a ||| BitVec.ofInt q.bits b).toNat)):=by simp [pq,zg2]
theorem pq_xor (q:IntKind) (a b:Int):pq (.bits .xor) [.i q a,.i q b]=some (.i q (q.wrap (BitVec.ofInt q.bits a ^^^ BitVec.ofInt q.bits b).toNat)):=by simp [pq,zg2]
theorem pq_shl (q q':IntKind) (a b:Int):pq .shl [.i q a,.i q' b]=if 0 ≤ b then some (.i q (q.wrap (a * 2 ^ (min b.toNat q.bits)))) else none:=Eq.trans rfl rfl
theorem pq_shr (q q':IntKind) (a b:Int):pq .shr [.i q a,.i q' b]=if 0 ≤ b then some (.i q (a.fdiv (2 ^ (min b.toNat q.bits)))) else none:=Eq.trans rfl rfl
theorem pq_mn (q:IntKind) (a b:Int):pq .mn [.i q a,.i q b]=some (.i q (if b < a then b else a)):=by simp [pq]
theorem pq_mx (q:IntKind) (a b:Int):pq .mx [.i q a,.i q b]=some (.i q (if a < b then b else a)):=by simp [pq]
theorem pq_rsl (sz n:Nat) (xs:List AV) (q:IntKind) (a:Int):pq (.rsl sz) [.row n xs,.i q a]=if 0 ≤ a ∧ a ≤ n then some (.row (n - a.toNat) ((xs.take (n * sz)).drop (a.toNat * sz))) else none:=Eq.trans rfl rfl
theorem zhV (sz:Nat) (q:IntKind) (a:Int):pq (.rsl sz) [.nil,.i q a]=if a=0 then some .nil else none:=Eq.trans rfl rfl
theorem zhW (sz n:Nat) (xs:List AV) (q:IntKind) (a:Int):pq (.rslh sz) [.row n xs,.i q a]=if 0 ≤ a ∧ a ≤ n then some (.row a.toNat (xs.take (a.toNat * sz))) else none:=Eq.trans rfl rfl
theorem zfA (sz:Nat) (q:IntKind) (a:Int):pq (.rslh sz) [.nil,.i q a]=if a=0 then some .nil else none:=Eq.trans rfl rfl
theorem zhX (sz n:Nat) (xs:List AV) (q q':IntKind) (a b:Int):pq (.rslb sz) [.row n xs,.i q a,.i q' b]=if 0 ≤ a ∧ a ≤ b ∧ b ≤ n then some (.row (b.toNat - a.toNat) ((xs.take (b.toNat * sz)).drop (a.toNat * sz))) else none:=Eq.trans rfl rfl
theorem pq_asl (sz len b off:Nat) (q:IntKind) (a:Int):pq (.asl sz len) [.p b off,.i q a]=if 0 ≤ a ∧ a < len then some (.bsl b (off + a.toNat * sz) (len - a.toNat)) else none:=Eq.trans rfl rfl
theorem zhY (sz len b off:Nat) (q:IntKind) (a:Int):pq (.aslh sz len) [.p b off,.i q a]=if 0 ≤ a ∧ a ≤ len ∧ 0 < len then some (.bsl b off a.toNat) else none:=Eq.trans rfl rfl
theorem zhZ (sz len b off:Nat) (q q':IntKind) (a c:Int):pq (.aslb sz len) [.p b off,.i q a,.i q' c]=if 0 ≤ a ∧ a ≤ c ∧ c ≤ len ∧ a < len then some (.bsl b (off + a.toNat * sz) (c.toNat - a.toNat)) else none:=Eq.trans rfl rfl
theorem pq_snn (ne:Bool):pq (.snil ne) [.nil,.nil]=some (.b (!ne)):=Eq.trans rfl rfl
theorem pq_snz (ne b:Bool):pq (.snil ne) [.zn b,.nil]=some (.b (if ne then !b else b)):=Eq.trans rfl rfl
theorem pq_snr (ne:Bool) (n:Nat) (x:AV) (xs:List AV):pq (.snil ne) [.row n (x :: xs),.nil]=some (.b ne):=Eq.trans rfl rfl
theorem pq_sl3 (n:Nat) (xs:List AV) (q q':IntKind):pq .sl3 [.row n xs,.i q n,.i q' n]=some (.crow n xs):=by simp [pq]
theorem pq_lit (n:Nat) (z:List AV) (pl:List (Nat × Nat)) (xs:List AV):pq (.lit n z pl) xs=(zaZ z (zipA pl xs)).map (.crow n):=by
 simp only [pq]
theorem zipA_c (a b:Nat) (pl:List (Nat × Nat)) (x:AV) (xs:List AV):zipA ((a,b) :: pl) (x :: xs)=(a,b,x) :: zipA pl xs:=Eq.trans rfl rfl
theorem zipA_n (xs:List AV):zipA [] xs=[]:=by cases xs <;> rfl
theorem zhU (q q':IntKind):pq .sl3 [.nil,.i q 0,.i q' 0]=some (.crow 0 []):=by simp [pq]
theorem pq_mkp (T b off:Nat):pq (.mki T) [.p b off]=some (.ip T b off):=Eq.trans rfl rfl
theorem pq_mki (T:Nat) (q:IntKind) (n:Int):pq (.mki T) [.i q n]=some (.o (.iface T (.int q n))):=Eq.trans rfl rfl
theorem pq_tas (T:Nat) (q:IntKind) (n:Int):pq (.tas T) [.o (.iface T (.int q n))]=some (.tup [.i q n,.b true]):=by simp [pq]
theorem pq_lss (l m:List UInt8):pq (.scmp .lss) [.s l,.s m]=some (.b (zcN l m)):=Eq.trans rfl rfl
theorem pq_leq (l m:List UInt8):pq (.scmp .leq) [.s l,.s m]=some (.b (zcN l m || l == m)):=Eq.trans rfl rfl
theorem pq_gtr (l m:List UInt8):pq (.scmp .gtr) [.s l,.s m]=some (.b (!zcN l m && !(l == m))):=Eq.trans rfl rfl
theorem pq_geq (l m:List UInt8):pq (.scmp .geq) [.s l,.s m]=some (.b (!zcN l m)):=Eq.trans rfl rfl
theorem rn_pu (q:PQ) (xs:List SV):run P C (.ops (⟨d,.pu q xs,none⟩ :: r) :: k) objs tm F=kO P C (pq q (evs tm xs)) d r k objs tm F:=by
 rw [zb4]
 rw [zaB]
 simp only [wpS]
 cases pq q (xs.map fun x => x.ev tm) <;> rfl
def kLk2 (P:Program) [Tabs P] (C:Cx) (c:Option OB) (z:AV) (ok:Bool) (l:List UInt8) (d:Option Nat) (r:List SO) (k:List IT) (objs:List OB) (tm:List AV) (F:zas):Prop :=
 match c with
 | some (.mp es) => run P C (.ops r :: k) objs (zaj tm d (lkA z ok (zcD l es))) F
 | _ => False
def kMup2 (P:Program) [Tabs P] (C:Cx) (c:Option OB) (b:Nat) (l:List UInt8) (v:AV) (d:Option Nat) (r:List SO) (k:List IT) (objs:List OB) (tm:List AV) (F:zas):Prop :=
 match c with
 | some (.mp es) => v.one=true ∧ run P C (.ops r :: k) (objs.set b (.mp (zca l v es))) (zaj tm d .u) F
 | _ => False
theorem kLk2_m (es:List (List UInt8 × AV)) (z:AV) (ok:Bool) (l:List UInt8):kLk2 P C (some (.mp es)) z ok l d r k objs tm F=run P C (.ops r :: k) objs (zaj tm d (lkA z ok (zcD l es))) F:=Eq.trans rfl rfl
theorem zit (es:List (List UInt8 × AV)) (b:Nat) (l:List UInt8) (v:AV):kMup2 P C (some (.mp es)) b l v d r k objs tm F=(v.one=true ∧ run P C (.ops r :: k) (objs.set b (.mp (zca l v es))) (zaj tm d .u) F):=Eq.trans rfl rfl
def kLk (P:Program) [Tabs P] (C:Cx) (x y:AV) (z:AV) (ok:Bool) (d:Option Nat) (r:List SO) (k:List IT) (objs:List OB) (tm:List AV) (F:zas):Prop :=
 match x,y with
 | .m b,.s l => kLk2 P C objs[b]? z ok l d r k objs tm F
 | _,_ => False
theorem kLk_0 (b:Nat) (l:List UInt8) (z:AV) (ok:Bool):kLk P C (.m b) (.s l) z ok d r k objs tm F=(kLk2 P C objs[b]? z ok l d r k objs tm F):=Eq.trans rfl rfl
theorem rn_lk (z:AV) (ok:Bool) (x y:SV):run P C (.ops (⟨d,.lk z ok x y,none⟩ :: r) :: k) objs tm F=kLk P C (x.ev tm) (y.ev tm) z ok d r k objs tm F:=by
 rw [zaB]
 simp only [wpS,kLk]
 cases x.ev tm <;> try rfl
 all_goals try (cases y.ev tm <;> try rfl)
 all_goals (
  dsimp only
  rename_i b l
  generalize objs[b]? = q
  cases q with
  | none => rfl
  | some ob => cases ob <;> rfl)
def kMup (P:Program) [Tabs P] (C:Cx) (x y:AV) (v:AV) (d:Option Nat) (r:List SO) (k:List IT) (objs:List OB) (tm:List AV) (F:zas):Prop :=
 match x,y with
 | .m b,.s l => kMup2 P C objs[b]? b l v d r k objs tm F
 | _,_ => False
theorem kMup_0 (b:Nat) (l:List UInt8) (v:AV):kMup P C (.m b) (.s l) v d r k objs tm F=(kMup2 P C objs[b]? b l v d r k objs tm F):=Eq.trans rfl rfl
theorem rn_mup (x y v:SV):run P C (.ops (⟨d,.mup x y v,none⟩ :: r) :: k) objs tm F=kMup P C (x.ev tm) (y.ev tm) (v.ev tm) d r k objs tm F:=by
 rw [zaB]
 simp only [wpS,kMup]
 cases x.ev tm <;> try rfl
 all_goals try (cases y.ev tm <;> try rfl)
 all_goals (
  dsimp only
  rename_i b l
  generalize objs[b]? = q
  cases q with
  | none => rfl
  | some ob => cases ob <;> rfl)
theorem lkA_tt (z v:AV):lkA z true (some v)=.tup [v,.b true]:=Eq.trans rfl rfl
theorem lkA_tf (z v:AV):lkA z false (some v)=v:=Eq.trans rfl rfl
theorem lkA_nt (z:AV):lkA z true none=.tup [z,.b false]:=Eq.trans rfl rfl
theorem lkA_nf (z:AV):lkA z false none=z:=Eq.trans rfl rfl
theorem zhA :run P C (.ops (⟨d,.mkm0,none⟩ :: r) :: k) objs tm F=run P C (.ops r :: k) (objs ++ [.mp []]) (zaj tm d (.m objs.length)) F:=by
 rw [zaB]
 rfl
def kMkm (P:Program) [Tabs P] (C:Cx) (x:AV) (d:Option Nat) (r:List SO) (k:List IT) (objs:List OB) (tm:List AV) (F:zas):Prop :=
 match x with
 | .i _ _ => run P C (.ops r :: k) (objs ++ [.mp []]) (zaj tm d (.m objs.length)) F
 | _ => False
theorem kMkm_i (q:IntKind) (n:Int):kMkm P C (.i q n) d r k objs tm F=run P C (.ops r :: k) (objs ++ [.mp []]) (zaj tm d (.m objs.length)) F:=Eq.trans rfl rfl
theorem zhz (x:SV):run P C (.ops (⟨d,.mkm1 x,none⟩ :: r) :: k) objs tm F=kMkm P C (x.ev tm) d r k objs tm F:=by
 rw [zaB]
 simp only [wpS,kMkm]
 cases x.ev tm <;> rfl
def kG (P:Program) [Tabs P] (C:Cx) (v:AV) (op:SOp) (t:Nat) (w:Bool) (d:Option Nat) (r:List SO) (k:List IT) (objs:List OB) (tm:List AV) (F:zas):Prop :=
 match v with
 | .b x => (x=w → run P C (.ops (⟨d,op,none⟩ :: r) :: k) objs (tm.set t (.b w)) F) ∧ (x=!w → run P C (.ops r :: k) objs (zaj (tm.set t (.b (!w))) d (.o undef)) F)
 | .o (.tuple _) => run P C (.ops r :: k) objs (zaj tm d (.o undef)) F
 | _ => False
def kGD (P:Program) [Tabs P] (C:Cx) (v:AV) (op:SOp) (t:Nat) (w:Bool) (d:Option Nat) (r:List SO) (k:List IT) (objs:List OB) (tm:List AV) (F:zas):Prop :=
 match v with
 | .b x => (x=w → run P C (.dops (⟨d,op,none⟩ :: r) :: k) objs (tm.set t (.b w)) F) ∧ (x=!w → run P C (.dops r :: k) objs (zaj (tm.set t (.b (!w))) d (.o undef)) F)
 | .o (.tuple _) => run P C (.dops r :: k) objs (zaj tm d (.o undef)) F
 | _ => False
theorem kG_tt (op:SOp) (t:Nat):kG P C (.b true) op t true d r k objs tm F=run P C (.ops (⟨d,op,none⟩ :: r) :: k) objs (tm.set t (.b true)) F:=propext ⟨fun h => h.1 rfl,fun h => ⟨fun _ => h,fun e => absurd e (by decide)⟩⟩
theorem kG_tf (op:SOp) (t:Nat):kG P C (.b true) op t false d r k objs tm F=run P C (.ops r :: k) objs (zaj (tm.set t (.b true)) d (.o undef)) F:=propext ⟨fun h => h.2 rfl,fun h => ⟨fun e => absurd e (by decide),fun _ => h⟩⟩
theorem kG_ft (op:SOp) (t:Nat):kG P C (.b false) op t true d r k objs tm F=run P C (.ops r :: k) objs (zaj (tm.set t (.b false)) d (.o undef)) F:=propext ⟨fun h => h.2 rfl,fun h => ⟨fun e => absurd e (by decide),fun _ => h⟩⟩
theorem kG_ff (op:SOp) (t:Nat):kG P C (.b false) op t false d r k objs tm F=run P C (.ops (⟨d,op,none⟩ :: r) :: k) objs (tm.set t (.b false)) F:=propext ⟨fun h => h.1 rfl,fun h => ⟨fun _ => h,fun e => absurd e (by decide)⟩⟩
theorem kG_u (op:SOp) (t:Nat) (w:Bool):kG P C (.o undef) op t w d r k objs tm F=run P C (.ops r :: k) objs (zaj tm d (.o undef)) F:=Eq.trans rfl rfl
theorem kG_v (op:SOp) (t:Nat) (w:Bool) (vs:Array Value):kG P C (.o (.tuple vs)) op t w d r k objs tm F=run P C (.ops r :: k) objs (zaj tm d (.o undef)) F:=Eq.trans rfl rfl
theorem kGD_tt (op:SOp) (t:Nat):kGD P C (.b true) op t true d r k objs tm F=run P C (.dops (⟨d,op,none⟩ :: r) :: k) objs (tm.set t (.b true)) F:=propext ⟨fun h => h.1 rfl,fun h => ⟨fun _ => h,fun e => absurd e (by decide)⟩⟩
theorem kGD_tf (op:SOp) (t:Nat):kGD P C (.b true) op t false d r k objs tm F=run P C (.dops r :: k) objs (zaj (tm.set t (.b true)) d (.o undef)) F:=propext ⟨fun h => h.2 rfl,fun h => ⟨fun e => absurd e (by decide),fun _ => h⟩⟩
theorem kGD_ft (op:SOp) (t:Nat):kGD P C (.b false) op t true d r k objs tm F=run P C (.dops r :: k) objs (zaj (tm.set t (.b false)) d (.o undef)) F:=propext ⟨fun h => h.2 rfl,fun h => ⟨fun e => absurd e (by decide),fun _ => h⟩⟩
theorem kGD_ff (op:SOp) (t:Nat):kGD P C (.b false) op t false d r k objs tm F=run P C (.dops (⟨d,op,none⟩ :: r) :: k) objs (tm.set t (.b false)) F:=propext ⟨fun h => h.1 rfl,fun h => ⟨fun _ => h,fun e => absurd e (by decide)⟩⟩
theorem kGD_u (op:SOp) (t:Nat) (w:Bool):kGD P C (.o undef) op t w d r k objs tm F=run P C (.dops r :: k) objs (zaj tm d (.o undef)) F:=Eq.trans rfl rfl
theorem kGD_v (op:SOp) (t:Nat) (w:Bool) (vs:Array Value):kGD P C (.o (.tuple vs)) op t w d r k objs tm F=run P C (.dops r :: k) objs (zaj tm d (.o undef)) F:=Eq.trans rfl rfl
theorem zfs (op:SOp) (t:Nat) (w:Bool):run P C (.ops (⟨d,op,some (t,w)⟩ :: r) :: k) objs tm F=kG P C ((tm[t]?).getD .u) op t w d r k objs tm F:=by
 show wpR P _ _ _ _=_
 simp only [wpR,kG]
 cases (tm[t]?).getD .u <;> try rfl
 try (case o v => cases v <;> rfl)
theorem zed (op:SOp) (t:Nat) (w:Bool):run P C (.dops (⟨d,op,some (t,w)⟩ :: r) :: k) objs tm F=kGD P C ((tm[t]?).getD .u) op t w d r k objs tm F:=by
 show wpD P _ _ _ _=_
 simp only [wpD,kGD]
 cases (tm[t]?).getD .u <;> try rfl
 try (case o v => cases v <;> rfl)
def kC (P:Program) [Tabs P] (C:Cx) (v:AV) (x y:SCode) (k:List IT) (objs:List OB) (tm:List AV) (F:zas):Prop :=
 match v with
 | .b t => (t=true → run P C (.code x :: k) objs tm F) ∧ (t=false → run P C (.code y :: k) objs tm F)
 | _ => False
theorem kC_t (x y:SCode):kC P C (.b true) x y k objs tm F=run P C (.code x :: k) objs tm F:=propext ⟨fun h => h.1 rfl,fun h => ⟨fun _ => h,fun e => absurd e (by decide)⟩⟩
theorem kC_f (x y:SCode):kC P C (.b false) x y k objs tm F=run P C (.code y :: k) objs tm F:=propext ⟨fun h => h.2 rfl,fun h => ⟨fun e => absurd e (by decide),fun _ => h⟩⟩
theorem zhK (c:SV) (x y:SCode):run P C (.code (.cond c x y) :: k) objs tm F=kC P C (c.ev tm) x y k objs tm F:=by
 show wpC P C _ _ _ _=_
 simp only [wpC,kC]
 cases c.ev tm <;> rfl
def kCall (P:Program) [Tabs P] (C:Cx) (f:Nat) (args:List AV) (d:Option Nat) (r:List SO) (k:List IT) (objs:List OB) (tm:List AV) (F:zas):Prop:=zae P f args objs fun o v => run P C (.ops r :: k) o (zaj tm d v) F
theorem zhM (f:Nat) (args:List SV):run P C (.ops (⟨d,.call f args,none⟩ :: r) :: k) objs tm F=kCall P C f (evs tm args) d r k objs tm F:=by
 show wpR P _ _ _ _=_
 simp only [wpR,wpS,kCall,zb4]; rfl
theorem zap {f:Nat} {args:List AV} (h:zae P f args objs fun o v => run P C (.ops r :: k) o (zaj tm d v) F):kCall P C f args d r k objs tm F:=h
def ziG (P:Program) [Tabs P] (C:Cx) (f:Nat) (args:List AV) (d:Option Nat) (r:List SO) (k:List IT) (objs:List OB) (tm:List AV) (F:zas):Prop:=∃ v,(zae P f args objs fun o x => o=objs ∧ x=v) ∧ run P C (.dops r :: k) objs (zaj tm d v) F
theorem zft (f:Nat) (args:List SV):run P C (.dops (⟨d,.call f args,none⟩ :: r) :: k) objs tm F=ziG P C f (evs tm args) d r k objs tm F:=by
 show wpD P _ _ _ _=_
 simp only [wpD,wpS,ziG,zb4,SOp.isCall,if_true]; rfl
def zir (P:Program) [Tabs P] (C:Cx) (f:Nat) (args:List AV) (d:Option Nat) (r:List SO) (k:List IT) (objs:List OB) (tm:List AV) (F:zas):Prop:=∃ v,(zak args=true ∧ zae P f args [] fun _ x => x.plain=true ∧ objs=objs ∧ x=v) ∧ run P C (.dops r :: k) objs (zaj tm d v) F
theorem zfo (f:Nat) (args:List SV):run P C (.dops (⟨d,.pcall f args,none⟩ :: r) :: k) objs tm F=zir P C f (evs tm args) d r k objs tm F:=by
 show wpD P (⟨d,.pcall f args,none⟩ :: r) objs tm _=_
 simp only [wpD,wpS,zir,zb4,SOp.isCall,if_true]; rfl
theorem zbl {f:Nat} {args:List AV} {v:AV} (h:zae P f args [] fun _ x => x=v) (hp:zak args=true) (hv:v.plain=true) (hr:run P C (.dops r :: k) objs (zaj tm d v) F):zir P C f args d r k objs tm F :=
 ⟨v,⟨hp,h.mono fun _ x e => by subst e; exact ⟨hv,rfl,rfl⟩⟩,hr⟩
theorem zdo {f:Nat} {args:List AV} {v:AV} (h:zae P f args objs fun o x => o=objs ∧ x=v) (hr:run P C (.dops r :: k) objs (zaj tm d v) F):ziG P C f args d r k objs tm F:=⟨v,h,hr⟩
def IsFn (P : Program) (f : Nat) : Prop := ∃ fn, P.funcs[f]? = some fn ∧ fn.body.isSome = true ∧ fn.name ≠ "runtime.NumGoroutine"
def ziH (P:Program) [Tabs P] (C:Cx) (x:AV) (args:List AV) (d:Option Nat) (r:List SO) (k:List IT) (objs:List OB) (tm:List AV) (F:zas):Prop :=
 match x with
 | .fn f fs cs => IsFn P f ∧ zae P f (fs ++ args ++ cs) objs fun o v => run P C (.ops r :: k) o (zaj tm d v) F
 | _ => False
theorem zfv (x:SV) (args:List SV):run P C (.ops (⟨d,.callv x args,none⟩ :: r) :: k) objs tm F=ziH P C (x.ev tm) (evs tm args) d r k objs tm F:=by
 show wpR P _ _ _ _=_
 simp only [wpR,wpS,ziH,zb4]
 cases x.ev tm <;> rfl
theorem zfO {f:Nat} {fs cs args:List AV} (hf:IsFn P f) (h:zae P f (fs ++ args ++ cs) objs fun o v => run P C (.ops r :: k) o (zaj tm d v) F):ziH P C (.fn f fs cs) args d r k objs tm F:=⟨hf,h⟩
def kInv (P:Program) [Tabs P] (C:Cx) (tab:List (Nat × Nat)) (x:AV) (args:List AV) (d:Option Nat) (r:List SO) (k:List IT) (objs:List OB) (tm:List AV) (F:zas):Prop :=
 match x with
 | .ip T b off => match tab.lookup T with
  | some f => zae P f (.p b off :: args) objs fun o v => run P C (.ops r :: k) o (zaj tm d v) F
  | none => False
 | _ => False
theorem rn_inv (tab:List (Nat × Nat)) (x:SV) (args:List SV):run P C (.ops (⟨d,.inv tab x args,none⟩ :: r) :: k) objs tm F=kInv P C tab (x.ev tm) (evs tm args) d r k objs tm F:=by
 show wpR P _ _ _ _=_
 simp only [wpR,wpS,kInv,zb4]
 cases x.ev tm <;> rfl
theorem kinv {f T b off:Nat} {tab:List (Nat × Nat)} {args:List AV} (hf:tab.lookup T=some f) (h:zae P f (.p b off :: args) objs fun o v => run P C (.ops r :: k) o (zaj tm d v) F):kInv P C tab (.ip T b off) args d r k objs tm F:=by
 simp only [kInv,hf]; exact h
theorem drn_mv (x:SV):run P C (.dops (⟨d,.mv x,none⟩ :: r) :: k) objs tm F=run P C (.ops [⟨d,.mv x,none⟩] :: .dops r :: k) objs tm F:=Eq.trans rfl rfl
theorem zgk (c x y:SV):run P C (.dops (⟨d,.pick c x y,none⟩ :: r) :: k) objs tm F=run P C (.ops [⟨d,.pick c x y,none⟩] :: .dops r :: k) objs tm F:=Eq.trans rfl rfl
theorem zew (z:List AV) (ps:List (Nat × Nat × SV)):run P C (.dops (⟨d,.build z ps,none⟩ :: r) :: k) objs tm F=run P C (.ops [⟨d,.build z ps,none⟩] :: .dops r :: k) objs tm F:=Eq.trans rfl rfl
theorem zdw (n:Nat) (z:List AV) (ps:List (Nat × Nat × SV)):run P C (.dops (⟨d,.bslice n z ps,none⟩ :: r) :: k) objs tm F=run P C (.ops [⟨d,.bslice n z ps,none⟩] :: .dops r :: k) objs tm F:=Eq.trans rfl rfl
theorem zeu (x:SV):run P C (.dops (⟨d,.load1 x,none⟩ :: r) :: k) objs tm F=run P C (.ops [⟨d,.load1 x,none⟩] :: .dops r :: k) objs tm F:=Eq.trans rfl rfl
theorem zet (sz:Nat) (x:SV):run P C (.dops (⟨d,.loadn sz x,none⟩ :: r) :: k) objs tm F=run P C (.ops [⟨d,.loadn sz x,none⟩] :: .dops r :: k) objs tm F:=Eq.trans rfl rfl
theorem zjv (x:SV):run P C (.dops (⟨d,.nck x,none⟩ :: r) :: k) objs tm F=run P C (.ops [⟨d,.nck x,none⟩] :: .dops r :: k) objs tm F:=Eq.trans rfl rfl
theorem zjI (q:BinOp) (x y:SV):run P C (.dops (⟨d,.bin q x y,none⟩ :: r) :: k) objs tm F=run P C (.ops [⟨d,.bin q x y,none⟩] :: .dops r :: k) objs tm F:=Eq.trans rfl rfl
theorem zjJ (ne:Bool) (x y:SV):run P C (.dops (⟨d,.beq ne x y,none⟩ :: r) :: k) objs tm F=run P C (.ops [⟨d,.beq ne x y,none⟩] :: .dops r :: k) objs tm F:=Eq.trans rfl rfl
theorem zjE (ne:Bool) (e:ET) (x y:SV):run P C (.dops (⟨d,.eqs ne e x y,none⟩ :: r) :: k) objs tm F=run P C (.ops [⟨d,.eqs ne e x y,none⟩] :: .dops r :: k) objs tm F:=Eq.trans rfl rfl
theorem zjt (x:SV):run P C (.dops (⟨d,.not x,none⟩ :: r) :: k) objs tm F=run P C (.ops [⟨d,.not x,none⟩] :: .dops r :: k) objs tm F:=Eq.trans rfl rfl
theorem zju (x:SV):run P C (.dops (⟨d,.neg x,none⟩ :: r) :: k) objs tm F=run P C (.ops [⟨d,.neg x,none⟩] :: .dops r :: k) objs tm F:=Eq.trans rfl rfl
theorem zgq (sz len:Nat) (x y:SV):run P C (.dops (⟨d,.iada sz len x y,none⟩ :: r) :: k) objs tm F=run P C (.ops [⟨d,.iada sz len x y,none⟩] :: .dops r :: k) objs tm F:=Eq.trans rfl rfl
theorem zjG (q:IntKind) (x:SV):run P C (.dops (⟨d,.cvi q x,none⟩ :: r) :: k) objs tm F=run P C (.ops [⟨d,.cvi q x,none⟩] :: .dops r :: k) objs tm F:=Eq.trans rfl rfl
theorem zjF (x:SV):run P C (.dops (⟨d,.cvs x,none⟩ :: r) :: k) objs tm F=run P C (.ops [⟨d,.cvs x,none⟩] :: .dops r :: k) objs tm F:=Eq.trans rfl rfl
theorem zgt (x:SV):run P C (.dops (⟨d,.cvbs x,none⟩ :: r) :: k) objs tm F=run P C (.ops [⟨d,.cvbs x,none⟩] :: .dops r :: k) objs tm F:=Eq.trans rfl rfl
theorem zgj (x:SV) (lo hi:Option SV):run P C (.dops (⟨d,.slcs x lo hi,none⟩ :: r) :: k) objs tm F=run P C (.ops [⟨d,.slcs x lo hi,none⟩] :: .dops r :: k) objs tm F:=Eq.trans rfl rfl
theorem zjC (off:Nat) (x:SV):run P C (.dops (⟨d,.fad off x,none⟩ :: r) :: k) objs tm F=run P C (.ops [⟨d,.fad off x,none⟩] :: .dops r :: k) objs tm F:=Eq.trans rfl rfl
theorem zgs (off:Nat) (x:SV):run P C (.dops (⟨d,.fld1 off x,none⟩ :: r) :: k) objs tm F=run P C (.ops [⟨d,.fld1 off x,none⟩] :: .dops r :: k) objs tm F:=Eq.trans rfl rfl
theorem zgr (off sz:Nat) (x:SV):run P C (.dops (⟨d,.fldn off sz x,none⟩ :: r) :: k) objs tm F=run P C (.ops [⟨d,.fldn off sz x,none⟩] :: .dops r :: k) objs tm F:=Eq.trans rfl rfl
theorem zjB (sz:Nat) (x y:SV):run P C (.dops (⟨d,.iad sz x y,none⟩ :: r) :: k) objs tm F=run P C (.ops [⟨d,.iad sz x y,none⟩] :: .dops r :: k) objs tm F:=Eq.trans rfl rfl
theorem zjA (x y:SV):run P C (.dops (⟨d,.idx x y,none⟩ :: r) :: k) objs tm F=run P C (.ops [⟨d,.idx x y,none⟩] :: .dops r :: k) objs tm F:=Eq.trans rfl rfl
theorem zjD (x:SV) (j:Nat):run P C (.dops (⟨d,.ext x j,none⟩ :: r) :: k) objs tm F=run P C (.ops [⟨d,.ext x j,none⟩] :: .dops r :: k) objs tm F:=Eq.trans rfl rfl
theorem zgn (x:SV):run P C (.dops (⟨d,.lens x,none⟩ :: r) :: k) objs tm F=run P C (.ops [⟨d,.lens x,none⟩] :: .dops r :: k) objs tm F:=Eq.trans rfl rfl
theorem zgo (x:SV):run P C (.dops (⟨d,.lenr x,none⟩ :: r) :: k) objs tm F=run P C (.ops [⟨d,.lenr x,none⟩] :: .dops r :: k) objs tm F:=Eq.trans rfl rfl
theorem zjz (f:Nat) (fs cs:List SV):run P C (.dops (⟨d,.mkf f fs cs,none⟩ :: r) :: k) objs tm F=run P C (.ops [⟨d,.mkf f fs cs,none⟩] :: .dops r :: k) objs tm F:=Eq.trans rfl rfl
theorem zgv (E sz n:Nat) (z:List AV) (ps:List (Nat × Nat × SV)):run P C (.dops (⟨d,.bslo E sz n z ps,none⟩ :: r) :: k) objs tm F=run P C (.ops [⟨d,.bslo E sz n z ps,none⟩] :: .dops r :: k) objs tm F:=Eq.trans rfl rfl
theorem zex (T:Nat) (z:List AV):run P C (.dops (⟨d,.alloc T z,none⟩ :: r) :: k) objs tm F=run P C (.ops [⟨d,.alloc T z,none⟩] :: .dops r :: k) objs tm F:=Eq.trans rfl rfl
theorem zjH (T:Nat) (x:SV):run P C (.dops (⟨d,.box T x,none⟩ :: r) :: k) objs tm F=run P C (.ops [⟨d,.box T x,none⟩] :: .dops r :: k) objs tm F:=Eq.trans rfl rfl
theorem zes (sz:Nat) (x y:SV):run P C (.dops (⟨d,.store sz x y,none⟩ :: r) :: k) objs tm F=run P C (.ops [⟨d,.store sz x y,none⟩] :: .dops r :: k) objs tm F:=Eq.trans rfl rfl
theorem zjK (E sz by':Nat) (x y:SV):run P C (.dops (⟨d,.app E sz by' x y,none⟩ :: r) :: k) objs tm F=run P C (.ops [⟨d,.app E sz by' x y,none⟩] :: .dops r :: k) objs tm F:=Eq.trans rfl rfl
theorem zgw (E:Nat) (x y:SV):run P C (.dops (⟨d,.apps E x y,none⟩ :: r) :: k) objs tm F=run P C (.ops [⟨d,.apps E x y,none⟩] :: .dops r :: k) objs tm F:=Eq.trans rfl rfl
theorem zjy (E sz by':Nat) (x y:SV):run P C (.dops (⟨d,.mks E sz by' x y,none⟩ :: r) :: k) objs tm F=run P C (.ops [⟨d,.mks E sz by' x y,none⟩] :: .dops r :: k) objs tm F:=Eq.trans rfl rfl
theorem zjx (E by':Nat) (kd:IntKind) (z:Int) (x:SV):run P C (.dops (⟨d,.mkz E by' kd z x,none⟩ :: r) :: k) objs tm F=run P C (.ops [⟨d,.mkz E by' kd z x,none⟩] :: .dops r :: k) objs tm F:=Eq.trans rfl rfl
theorem zgu (sz by':Nat) (x y:SV):run P C (.dops (⟨d,.capp sz by' x y,none⟩ :: r) :: k) objs tm F=run P C (.ops [⟨d,.capp sz by' x y,none⟩] :: .dops r :: k) objs tm F:=Eq.trans rfl rfl
theorem zev (E sz by':Nat) (x y:SV):run P C (.dops (⟨d,.cappo E sz by' x y,none⟩ :: r) :: k) objs tm F=run P C (.ops [⟨d,.cappo E sz by' x y,none⟩] :: .dops r :: k) objs tm F:=Eq.trans rfl rfl
theorem drn_pu (q:PQ) (xs:List SV):run P C (.dops (⟨d,.pu q xs,none⟩ :: r) :: k) objs tm F=run P C (.ops [⟨d,.pu q xs,none⟩] :: .dops r :: k) objs tm F:=Eq.trans rfl rfl
theorem zjs (sz:Nat) (x y:SV):run P C (.dops (⟨d,.trn sz x y,none⟩ :: r) :: k) objs tm F=run P C (.ops [⟨d,.trn sz x y,none⟩] :: .dops r :: k) objs tm F:=Eq.trans rfl rfl
theorem zgp (sz:Nat) (x y:SV):run P C (.dops (⟨d,.iadr sz x y,none⟩ :: r) :: k) objs tm F=run P C (.ops [⟨d,.iadr sz x y,none⟩] :: .dops r :: k) objs tm F:=Eq.trans rfl rfl
theorem zgm :run P C (.dops (⟨d,.mkm0,none⟩ :: r) :: k) objs tm F=run P C (.ops [⟨d,.mkm0,none⟩] :: .dops r :: k) objs tm F:=Eq.trans rfl rfl
theorem zgl (x:SV):run P C (.dops (⟨d,.mkm1 x,none⟩ :: r) :: k) objs tm F=run P C (.ops [⟨d,.mkm1 x,none⟩] :: .dops r :: k) objs tm F:=Eq.trans rfl rfl
theorem drn_lk (z:AV) (ok:Bool) (x y:SV):run P C (.dops (⟨d,.lk z ok x y,none⟩ :: r) :: k) objs tm F=run P C (.ops [⟨d,.lk z ok x y,none⟩] :: .dops r :: k) objs tm F:=Eq.trans rfl rfl
theorem zjw (x y v:SV):run P C (.dops (⟨d,.mup x y v,none⟩ :: r) :: k) objs tm F=run P C (.ops [⟨d,.mup x y v,none⟩] :: .dops r :: k) objs tm F:=Eq.trans rfl rfl
theorem zaU {f:FuncId} {n:Nat} {ss:List SRes} {sc:SCode} (hf:FnIs P f n ss sc) {args:List AV} {objs:List OB} {K:List OB → AV → Prop} (hp:zak args=true)
  (h:∀ (C:Cx) [On P C],run P C [.code sc] [] (args ++ List.replicate (n - args.length) (.o undef)) (endK ss fun r => K objs r)):zae P f args objs K :=
 fn_ok hf hp h
theorem za3 {f:FuncId} {n:Nat} {ss:List SRes} {sc:SCode} (hf:FnIs P f n ss sc) {args:List AV} {objs:List OB} {K:List OB → AV → Prop}
  (h:∀ (C:Cx) [On P C],run P C [.code sc] objs (args ++ List.replicate (n - args.length) (.o undef)) (endI ss K)):zae P f args objs K :=
 fn_in hf h
theorem endI_n (ss:List SRes) (K:List OB → AV → Prop):endI ss K .normal objs tm=zg8 ss K objs tm:=Eq.trans rfl rfl
theorem endI_r (ss:List SRes) (K:List OB → AV → Prop):endI ss K .ret objs tm=zg8 ss K objs tm:=Eq.trans rfl rfl
def outJ (K:List OB → AV → Prop) (objs:List OB):Option (List AV) → Prop
 | some xs => K objs (zeF xs)
 | none => False
theorem outJ_s (K:List OB → AV → Prop) (xs:List AV):outJ K objs (some xs)=K objs (zeF xs):=Eq.trans rfl rfl
theorem zh3 (ss:List SRes) (K:List OB → AV → Prop):zg8 ss K objs tm=outJ K objs (zbv objs tm ss):=by
 unfold zg8
 cases zbv objs tm ss <;> rfl
theorem endK_n (ss:List SRes) (K:AV → Prop):endK ss K .normal objs tm=outK ss K objs tm:=Eq.trans rfl rfl
theorem endK_r (ss:List SRes) (K:AV → Prop):endK ss K .ret objs tm=outK ss K objs tm:=Eq.trans rfl rfl
def outO (K:AV → Prop):Option AV → Prop
 | some r => K r
 | none => False
theorem outO_s (K:AV → Prop) (r:AV):outO K (some r)=K r:=Eq.trans rfl rfl
theorem zh2 (ss:List SRes) (K:AV → Prop):outK ss K objs tm=outO K ((zbv objs tm ss).bind fun xs => pub objs 5 (zeF xs)):=by
 unfold outK
 cases (zbv objs tm ss).bind (fun xs => pub objs 5 (zeF xs)) <;> rfl
end
end Go.Proofs.YtbeoijfmfkifeaaGreatDoor.Sx
namespace Go.Proofs.YtbeoijfmfkifeaaGreatDoor.Sx
open Go.RowKit
inductive XV where
 | ok (o:List OB) (r:AV)
 | bad (op:SOp)
inductive T8 where
 | lf (v:AV)
 | nd (l r:T8)
noncomputable def T8.get (t:T8):Nat → AV :=
 T8.rec (motive:=fun _ => Nat → AV) (fun v _ => v) (fun _ _ gl gr n => Bool.rec (motive:=fun _ => AV) (gr (Nat.div n 2)) (gl (Nat.div n 2)) (Nat.beq (Nat.mod n 2) 0)) t
noncomputable def T8.setK (t:T8):Nat → AV → (T8 → XV) → XV :=
 T8.rec (motive:=fun _ => Nat → AV → (T8 → XV) → XV) (fun _ _ v k => k (.lf v)) (fun l r sl sr n v k => Bool.rec (motive:=fun _ => XV) (sr (Nat.div n 2) v fun r' => k (.nd l r')) (sl (Nat.div n 2) v fun l' => k (.nd l' r)) (Nat.beq (Nat.mod n 2) 0)) t
def T8.put:T8 → Nat → AV → T8
 | .lf _,_,v => .lf v
 | .nd l r,n,v => if n % 2=0 then .nd (l.put (n / 2) v) r else .nd l (r.put (n / 2) v)
def T8.full:Nat → T8 → Prop
 | 0,.lf _ => True
 | D + 1,.nd l r => T8.full D l ∧ T8.full D r
 | _,_ => False
noncomputable def T8.mk (D:Nat):T8:=Nat.rec (motive:=fun _ => T8) (.lf (.o undef)) (fun _ t => .nd t t) D
theorem zjX (n:Nat):Nat.beq (Nat.mod n 2) 0=decide (n % 2=0):=by
 rw [Bool.eq_iff_iff,Nat.beq_eq,decide_eq_true_eq]; rfl
theorem zf8 (l r:T8) (n:Nat):(T8.nd l r).get n=if n % 2=0 then l.get (n / 2) else r.get (n / 2):=by
 show (Bool.rec (motive:=fun _ => AV) (r.get (Nat.div n 2)) (l.get (Nat.div n 2)) (Nat.beq (Nat.mod n 2) 0))=_
 rw [zjX]
 by_cases h:n % 2=0
 ·rw [decide_eq_true h,if_pos h]; rfl
 ·rw [decide_eq_false h,if_neg h]; rfl
theorem zbz:∀ (t:T8) (n:Nat) (v:AV) (k:T8 → XV),t.setK n v k=k (t.put n v)
 | .lf _,n,v,k => rfl
 | .nd l r,n,v,k => by
  show (Bool.rec (motive:=fun _ => XV) (r.setK (Nat.div n 2) v fun r' => k (.nd l r')) (l.setK (Nat.div n 2) v fun l' => k (.nd l' r)) (Nat.beq (Nat.mod n 2) 0))=_
  rw [zjX,zbz,zbz,T8.put]
  by_cases h:n % 2=0
  ·rw [decide_eq_true h,if_pos h]; rfl
  ·rw [decide_eq_false h,if_neg h]; rfl
theorem zdR:∀ {D:Nat} {t:T8} (n:Nat) (v:AV),T8.full D t → T8.full D (t.put n v)
 | 0,.lf _,n,v,h => trivial
 | D + 1,.nd l r,n,v,h => by
  rw [T8.put]
  split
  ·exact ⟨zdR _ _ h.1,h.2⟩
  ·exact ⟨h.1,zdR _ _ h.2⟩
 | 0,.nd _ _,_,_,h => h.elim
 | D + 1,.lf _,_,_,h => h.elim
theorem ze1:∀ {D:Nat} {t:T8} {n m:Nat} (v:AV),T8.full D t → n < 2 ^ D → m < 2 ^ D → (t.put n v).get m=if n=m then v else t.get m
 | 0,.lf x,n,m,v,h,hn,hm => by
  obtain rfl:n=0:=by simpa using hn
  obtain rfl:m=0:=by simpa using hm
  rfl
 | D + 1,.nd l r,n,m,v,h,hn,hm => by
  rw [Nat.pow_succ] at hn hm
  rw [T8.put,zf8]
  by_cases h1:n % 2=0
  ·rw [if_pos h1,zf8,ze1 v h.1 (by omega) (by omega)]
   by_cases h2:m % 2=0
   ·rw [if_pos h2,if_pos h2]
    by_cases h3:n=m
    ·rw [if_pos h3,if_pos (by omega)]
    ·rw [if_neg h3,if_neg (by omega)]
   ·rw [if_neg h2,if_neg h2,if_neg (by omega)]
  ·rw [if_neg h1,zf8,ze1 v h.2 (by omega) (by omega)]
   by_cases h2:m % 2=0
   ·rw [if_pos h2,if_pos h2,if_neg (by omega)]
   ·rw [if_neg h2,if_neg h2]
    by_cases h3:n=m
    ·rw [if_pos h3,if_pos (by omega)]
    ·rw [if_neg h3,if_neg (by omega)]
 | 0,.nd _ _,_,_,_,h,_,_ => h.elim
 | D + 1,.lf _,_,_,_,h,_,_ => h.elim
theorem ze3:∀ D,T8.full D (T8.mk D)
 | 0 => trivial
 | D + 1 => ⟨ze3 D,ze3 D⟩
theorem get_mk:∀ (D n:Nat),(T8.mk D).get n=.o undef
 | 0,n => rfl
 | D + 1,n => by
  show (T8.nd (T8.mk D) (T8.mk D)).get n=_
  rw [zf8,get_mk]; exact ite_self _
def Rep (w:Nat) (t:T8) (tm:List AV):Prop:=tm.length=w ∧ ∃ D,T8.full D t ∧ w ≤ 2 ^ D ∧ ∀ n,n < w → t.get n=(tm[n]?).getD .u
theorem Rep.put {w n:Nat} {t:T8} {tm:List AV} {v:AV} (h:Rep w t tm) (hn:n < w):Rep w (t.put n v) (tm.set n v):=by
 obtain ⟨h1,D,h2,h3,h4⟩:=h
 refine ⟨by rw [List.length_set]; exact h1,D,zdR _ _ h2,h3,fun m hm => ?_⟩
 rw [ze1 v h2 (by omega) (by omega),List.getElem?_set]
 by_cases e:n=m
 ·subst e
  rw [if_pos rfl,if_pos rfl,if_pos (by omega)]; rfl
 ·rw [if_neg e,if_neg e]; exact h4 m hm
noncomputable def evT (w:Nat) (t:T8) (x:SV):AV :=
 SV.rec (motive:=fun _ => AV) (fun n => Bool.rec (motive:=fun _ => AV) .u (t.get n) (Nat.blt n w)) (fun v => v) x
theorem zbG (n w:Nat):Nat.blt n w=decide (n < w):=by
 rw [Bool.eq_iff_iff,decide_eq_true_eq]; exact iff_of_eq Nat.ble_eq
theorem Rep.ev {w:Nat} {t:T8} {tm:List AV} (h:Rep w t tm):evT w t=fun x => x.ev tm:=by
 funext x
 cases x with
 | c v => rfl
 | t n =>
  show (Bool.rec (motive:=fun _ => AV) .u (t.get n) (Nat.blt n w))=(tm[n]?).getD .u
  obtain ⟨h1,D,h2,h3,h4⟩:=h
  rw [zbG]
  by_cases e:n < w
  ·rw [decide_eq_true e]; exact h4 n e
  ·rw [decide_eq_false e,List.getElem?_eq_none (by omega)]; rfl
noncomputable def zgc (n:Nat) (k:Nat → XV):XV:=Nat.rec (motive:=fun _ => XV) (k 0) (fun m _ => k (Nat.succ m)) n
theorem ze4 (n:Nat) (k:Nat → XV):zgc n k=k n:=by cases n <;> rfl
noncomputable def zcj {β:Type} (l:List β):(List β → XV) → XV :=
 List.rec (motive:=fun _ => (List β → XV) → XV) (fun k => k []) (fun c _ ih k => ih fun t => k (c :: t)) l
theorem zci {β:Type}:∀ (l:List β) (k:List β → XV),zcj l k=k l
 | [],k => rfl
 | c :: l,k => zci l fun t => k (c :: t)
noncomputable def frc (v:AV) (k:AV → XV):XV :=
 match v with
 | .s l => k (.s l)
 | .i kd (.ofNat n) => zgc n fun n => k (.i kd (.ofNat n))
 | .b true => k (.b true)
 | .b false => k (.b false)
 | .p b o => zgc b fun b => zgc o fun o => k (.p b o)
 | .orow b g => zgc b fun b => zgc g fun g => k (.orow b g)
 | .prow xs j => zgc j fun j => k (.prow xs j)
 | .porow b g j => zgc b fun b => zgc g fun g => zgc j fun j => k (.porow b g j)
 | .i kd (.negSucc n) => k (.i kd (.negSucc n))
 | .agg cs => k (.agg cs)
 | .tup cs => k (.tup cs)
 | .row n xs => zgc n fun n => k (.row n xs)
 | .crow n xs => k (.crow n xs)
 | .bsl a b c => k (.bsl a b c)
 | .m b => k (.m b)
 | .ip T b o => k (.ip T b o)
 | .zn b => k (.zn b)
 | .nil => k .nil
 | .fn f a b => k (.fn f a b)
 | .o v => k (.o v)
 | .u => k .u
theorem zgb (v:AV) (k:AV → XV):frc v k=k v:=by
 unfold frc
 split <;> simp only [ze4]
noncomputable def zcE (l:List AV):(List AV → XV) → XV :=
 List.rec (motive:=fun _ => (List AV → XV) → XV) (fun k => k []) (fun c _ ih k => frc c fun c => ih fun t => k (c :: t)) l
theorem za1:∀ (l:List AV) (k:List AV → XV),zcE l k=k l
 | [],k => rfl
 | c :: l,k => by
  show frc c (fun c => zcE l fun t => k (c :: t))=_
  rw [zgb,za1]
def unA:List AV → Option (List UInt8)
 | [] => some []
 | .i .u8 (.ofNat n) :: l => if n < 256 then (unA l).map (UInt8.ofNat n :: ·) else none
 | _ => none
theorem zhk:∀ {xs:List AV} {l:List UInt8},unA xs=some l → xs=byA l
 | [],l,h => by
  unfold unA at h
  injection h with h; subst h; rfl
 | x :: xs,l,h => by
  unfold unA at h
  split at h
  ·rename_i e; cases e
  ·rename_i n r e
   injection e with e1 e2
   subst e1 e2
   split at h
   ·rename_i hn
    obtain ⟨r',hr,rfl⟩:=Option.map_eq_some_iff.1 h
    rw [zhk hr]
    have:(UInt8.ofNat n).toNat=n:=by rw [UInt8.toNat_ofNat']; omega
    show _=AV.i .u8 _ :: byA r'
    rw [this]; rfl
   ·cases h
  ·cases h
def exAr (k:IntKind) (r:Int):Option Int :=
 match k with
 | .i64 => if -9223372036854775808 ≤ r ∧ r ≤ 9223372036854775807 then some r else none
 | k => some (k.wrap r)
theorem ze6 {k:IntKind} {r n:Int} {K:Int → Prop} (h:exAr k r=some n) (hk:K n):arK k r K:=by
 cases k <;> simp only [exAr] at h <;> simp only [arK]
 all_goals first
  | (injection h with h; subst h; exact hk)
  | (split at h <;> first | (rename_i c; injection h with h; subst h; exact ⟨c,hk⟩) | cases h)
noncomputable def eqB (l:List UInt8):List UInt8 → Bool :=
 List.rec (motive:=fun _ => List UInt8 → Bool) (fun m => List.rec (motive:=fun _ => Bool) true (fun _ _ _ => false) m) (fun c _ ih m => List.rec (motive:=fun _ => Bool) false (fun d m' _ => Bool.rec (motive:=fun _ => Bool) false (ih m') (Nat.beq c.toNat d.toNat)) m) l
theorem zjo:∀ (l m:List UInt8),eqB l m=decide (l=m)
 | [],[] => by rw [decide_eq_true rfl]; rfl
 | [],_ :: _ => by rw [decide_eq_false (by simp)]; rfl
 | _ :: _,[] => by rw [decide_eq_false (by simp)]; rfl
 | c :: l,d :: m => by
  show (Bool.rec (motive:=fun _ => Bool) false (eqB l m) (Nat.beq c.toNat d.toNat))=_
  by_cases e:c=d
  ·subst e
   rw [Nat.beq_refl,zjo]
   by_cases e2:l=m
   ·subst e2; simp
   ·rw [decide_eq_false e2,decide_eq_false (by simp [e2])]
  ·rw [show Nat.beq c.toNat d.toNat=false from by
    rw [Bool.eq_false_iff]; intro h; exact e (UInt8.toNat_inj.1 (Nat.eq_of_beq_eq_true h)),decide_eq_false (by simp [e])]
def za9 (op:BinOp):AV → AV → Option AV
 | .i k m,.i k' n => if k=k' then
   match op with
   | .add => (exAr k (m + n)).map (.i k)
   | .sub => (exAr k (m - n)).map (.i k)
   | .mul => (exAr k (m * n)).map (.i k)
   | .quo => if n ≠ 0 then (exAr k (m.tdiv n)).map (.i k) else none
   | .rem => if n ≠ 0 then some (.i k (m.tmod n)) else none
   | .eql => some (.b (decide (m=n)))
   | .neq => some (.b (decide (¬ m=n)))
   | .lss => some (.b (decide (m < n)))
   | .leq => some (.b (decide (m ≤ n)))
   | .gtr => some (.b (decide (n < m)))
   | .geq => some (.b (decide (n ≤ m)))
   | _ => none
  else none
 | .s l,.s m =>
  match op with
  | .add => if l.length + m.length ≤ 9223372036854775807 then some (.s (l ++ m)) else none
  | .eql => some (.b (decide (l=m)))
  | .neq => some (.b (decide (¬ l=m)))
  | _ => none
 | _,_ => none
theorem zgf {op:BinOp} {x y v:AV} {K:AV → Prop} (h:za9 op x y=some v) (hk:K v):zjW op x y K:=by
 unfold za9 at h
 unfold zjW
 split at h
 ·split at h
  ·rename_i c
   refine ⟨c,?_⟩
   cases op <;> dsimp only at h ⊢
   all_goals first
    | (injection h with h; subst h; exact hk)
    | (obtain ⟨n,hn,rfl⟩:=Option.map_eq_some_iff.1 h; exact ze6 hn hk)
    | (split at h <;> first | (rename_i c2; obtain ⟨n,hn,rfl⟩:=Option.map_eq_some_iff.1 h; exact ⟨c2,ze6 hn hk⟩) | (rename_i c2; injection h with h; subst h; exact ⟨c2,hk⟩) | cases h)
    | cases h
  ·cases h
 ·cases op <;> dsimp only at h ⊢
  all_goals first
   | (injection h with h; subst h; exact hk)
   | (split at h <;> first | (rename_i c2; injection h with h; subst h; exact ⟨c2,hk⟩) | cases h)
   | cases h
 ·cases h
noncomputable def quC (op:BinOp) (k:IntKind) (m n:Nat):Option AV :=
 match op with
 | .eql => some (.b (Nat.beq m n))
 | .neq => some (.b (!(Nat.beq m n)))
 | .lss => some (.b (Nat.blt m n))
 | .leq => some (.b (Nat.ble m n))
 | .gtr => some (.b (Nat.blt n m))
 | .geq => some (.b (Nat.ble n m))
 | op => za9 op (.i k (.ofNat m)) (.i k (.ofNat n))
noncomputable def quN (op:BinOp) (m n:Nat):Option AV :=
 match op with
 | .add => Bool.rec (motive:=fun _ => Option AV) (za9 .add (.i .i64 (.ofNat m)) (.i .i64 (.ofNat n))) (some (.i .i64 (.ofNat (Nat.add m n)))) (Nat.ble (Nat.add m n) 9223372036854775807)
 | .sub => Bool.rec (motive:=fun _ => Option AV) (za9 .sub (.i .i64 (.ofNat m)) (.i .i64 (.ofNat n))) (some (.i .i64 (.ofNat (Nat.sub m n)))) (Nat.ble n m && Nat.ble m 9223372036854775807)
 | op => quC op .i64 m n
noncomputable def quK (op:BinOp) (k k':IntKind) (m n:Nat):Option AV :=
 match k with
 | .i64 => (match k' with
  | .i64 => quN op m n
  | k' => za9 op (.i .i64 (.ofNat m)) (.i k' (.ofNat n)))
 | .u8 => (match k' with
  | .u8 => quC op .u8 m n
  | k' => za9 op (.i .u8 (.ofNat m)) (.i k' (.ofNat n)))
 | k => za9 op (.i k (.ofNat m)) (.i k' (.ofNat n))
noncomputable def quI (op:BinOp) (k:IntKind) (m:Int) (y:AV):Option AV :=
 match y with
 | .i k' n => (match m with
  | .ofNat m => (match n with
   | .ofNat n => quK op k k' m n
   | n => za9 op (.i k (.ofNat m)) (.i k' n))
  | m => za9 op (.i k m) (.i k' n))
 | y => za9 op (.i k m) y
noncomputable def quS (op:BinOp) (l:List UInt8) (y:AV):Option AV :=
 match y with
 | .s m => (match op with
  | .eql => some (.b (eqB l m))
  | .neq => some (.b (!(eqB l m)))
  | op => za9 op (.s l) (.s m))
 | y => za9 op (.s l) y
noncomputable def quB (op:BinOp) (x y:AV):Option AV :=
 match x with
 | .i k m => quI op k m y
 | .s l => quS op l y
 | x => za9 op x y
theorem beq_dec (m n:Nat):Nat.beq m n=decide ((Int.ofNat m)=Int.ofNat n):=by
 rw [Bool.eq_iff_iff,decide_eq_true_eq,Nat.beq_eq]; exact ⟨fun h => by rw [h],fun h => Int.ofNat.inj h⟩
theorem blt_decI (m n:Nat):Nat.blt m n=decide ((Int.ofNat m) < Int.ofNat n):=by
 rw [zbG,Bool.eq_iff_iff,decide_eq_true_eq,decide_eq_true_eq]
 exact ⟨fun h => Int.ofNat_lt.2 h,fun h => Int.ofNat_lt.1 h⟩
theorem ble_decI (m n:Nat):Nat.ble m n=decide ((Int.ofNat m) ≤ Int.ofNat n):=by
 rw [Bool.eq_iff_iff,decide_eq_true_eq,Nat.ble_eq]
 exact ⟨fun h => Int.ofNat_le.2 h,fun h => Int.ofNat_le.1 h⟩
theorem quC_eq (op:BinOp) (k:IntKind) (m n:Nat):quC op k m n=za9 op (.i k (.ofNat m)) (.i k (.ofNat n)):=by
 cases op <;> simp only [quC,za9,if_true,beq_dec,blt_decI,ble_decI,decide_not]
theorem quN_eq (op:BinOp) (m n:Nat):quN op m n=za9 op (.i .i64 (.ofNat m)) (.i .i64 (.ofNat n)):=by
 unfold quN
 split
 ·cases h:Nat.ble (Nat.add m n) 9223372036854775807 with
  | false => rfl
  | true =>
   have h2:m + n ≤ 9223372036854775807:=Nat.le_of_ble_eq_true h
   have h3:-9223372036854775808 ≤ Int.ofNat m + Int.ofNat n ∧ Int.ofNat m + Int.ofNat n ≤ 9223372036854775807:=by
    have e:Int.ofNat m + Int.ofNat n=((m + n:Nat):Int):=rfl
    rw [e]; omega
   simp only [za9,if_true,exAr,if_pos h3,Option.map_some]
   rfl
 ·cases h:(Nat.ble n m && Nat.ble m 9223372036854775807) with
  | false => rfl
  | true =>
   rw [Bool.and_eq_true,Nat.ble_eq,Nat.ble_eq] at h
   have e:Int.ofNat m - Int.ofNat n=((m - n:Nat):Int):=by
    show (m:Int) - (n:Int)=_
    omega
   have h3:-9223372036854775808 ≤ Int.ofNat m - Int.ofNat n ∧ Int.ofNat m - Int.ofNat n ≤ 9223372036854775807:=by rw [e]; omega
   simp only [za9,if_true,exAr,if_pos h3,Option.map_some]
   rw [e]; rfl
 ·exact quC_eq _ _ _ _
theorem quB_eq (op:BinOp) (x y:AV):quB op x y=za9 op x y:=by
 unfold quB
 split
 ·unfold quI
  split
  ·split
   ·split
    ·unfold quK
     split
     ·split
      ·exact quN_eq _ _ _
      ·rfl
     ·split
      ·exact quC_eq _ _ _ _
      ·rfl
     ·rfl
    ·rfl
   ·rfl
  ·rfl
 ·unfold quS
  split
  ·split
   ·simp only [za9,zjo]
   ·simp only [za9,zjo,decide_not]
   ·rfl
  ·rfl
 ·rfl
noncomputable def wrF (k:IntKind) (n:Int):Int :=
 match n with
 | .ofNat m => Bool.rec (motive:=fun _ => Int) (match k with
  | .i64 => Bool.rec (motive:=fun _ => Int) (IntKind.i64.wrap (.ofNat m)) (.ofNat m) (Nat.ble m 9223372036854775807)
  | k => k.wrap (.ofNat m)) (.ofNat m) (Nat.ble m 127)
 | n => k.wrap n
theorem wrF_eq (k:IntKind) (n:Int):wrF k n=k.wrap n:=by
 unfold wrF
 split
 ·rename_i m
  cases h:Nat.ble m 127 with
  | true =>
   have h2:m ≤ 127:=Nat.le_of_ble_eq_true h
   have h3:(0:Int) ≤ Int.ofNat m ∧ Int.ofNat m ≤ 127:=⟨Int.natCast_nonneg m,Int.ofNat_le.2 h2⟩
   show Int.ofNat m=_
   generalize Int.ofNat m=z at h3
   cases k
   all_goals first
    | exact (IntWalk.i8_in z (by omega)).symm
    | exact (IntWalk.i16_in z (by omega)).symm
    | exact (IntWalk.i32_in z (by omega)).symm
    | exact (IntWalk.i64_in z (by omega)).symm
    | exact (IntWalk.u8_in z (by omega)).symm
    | exact (IntWalk.u16_in z (by omega)).symm
    | exact (IntWalk.u32_in z (by omega)).symm
    | exact (IntWalk.u64_in z (by omega)).symm
    | (unfold IntKind.wrap; simp [IntKind.bits,IntKind.signed]; omega)
  | false =>
   dsimp only
   split
   ·cases h2:Nat.ble m 9223372036854775807 with
    | false => rfl
    | true =>
     have h3:m ≤ 9223372036854775807:=Nat.le_of_ble_eq_true h2
     exact (IntWalk.i64_in (Int.ofNat m) ⟨Int.le_trans (by decide) (Int.natCast_nonneg m),Int.ofNat_le.2 h3⟩).symm
   ·rfl
 ·rfl
noncomputable def idxK (l:List UInt8):Nat → Option Nat :=
 List.rec (motive:=fun _ => Nat → Option Nat) (fun _ => none) (fun c _ ih n => Nat.rec (motive:=fun _ => Option Nat) (some c.toNat) (fun m _ => ih m) n) l
theorem ziU:∀ {l:List UInt8} {n c:Nat},idxK l n=some c → n < l.length ∧ (l.getD n 0).toNat=c
 | [],n,c,h => by cases h
 | d :: l,0,c,h => by
  have h2:some d.toNat=some c:=h
  injection h2 with h2
  exact ⟨Nat.succ_pos _,h2⟩
 | d :: l,n + 1,c,h => by
  have h2:idxK l n=some c:=h
  obtain ⟨h3,h4⟩:=ziU h2
  exact ⟨Nat.succ_lt_succ h3,h4⟩
def svbF (ev:SV → AV) (d:Int):Option SV → Option Int
 | none => some d
 | some x => match ev x with
  | .i _ n => some n
  | _ => none
theorem svbF_eq (tm:List AV) (d:Int):∀ x,svbF (fun x => x.ev tm) d x=zeG tm d x
 | none => rfl
 | some _ => rfl
def isM:SOp → Bool
 | .mkm0 => true
 | _ => false
structure Qls where
 cp:Nat → List AV → XV
 ci:Nat → List AV → List OB → XV
 has:Nat → Bool
 inn:Nat → Bool
 ln:Nat → List AV → List OB → XV
structure QlsOk (P:Program) [Tabs P] (c:Qls):Prop where
 cp:∀ f args o r,c.cp f args=.ok o r → ∀ (objs:List OB) (K:List OB → AV → Prop),K objs r → zae P f args objs K
 pl:∀ f args o r,c.cp f args=.ok o r → r.plain=true
 ci:∀ f args objs o r,c.ci f args objs=.ok o r → ∀ (K:List OB → AV → Prop),K o r → zae P f args objs K
 ln:∀ f args objs o r,c.ln f args objs=.ok o r → ∀ (K:List OB → AV → Prop),K objs r → zae P f args objs K
 has : ∀ f, c.has f = true → ∃ fn, P.funcs[f]? = some fn ∧ fn.body.isSome = true ∧ fn.name ≠ "runtime.NumGoroutine"
noncomputable def h_mv (x:SV) (Q:Qls) (objs:List OB) (ev:SV → AV) (k:List OB → AV → XV):XV:=k objs (ev x)
noncomputable def zi1 (c:SV) (x:SV) (y:SV) (Q:Qls) (objs:List OB) (ev:SV → AV) (k:List OB → AV → XV):XV:=match ev c with
  | .b true => k objs (ev x)
  | .b false => k objs (ev y)
  | _ => .bad (.pick c x y)
noncomputable def zja (T:Nat) (z:List AV) (Q:Qls) (objs:List OB) (ev:SV → AV) (k:List OB → AV → XV):XV:=zcj (objs ++ [.box T z]) fun o => k o (.p objs.length 0)
noncomputable def h_box (T:Nat) (x:SV) (Q:Qls) (objs:List OB) (ev:SV → AV) (k:List OB → AV → XV):XV:=if (ev x).flat=true then zcj (objs ++ [.box T (ev x).cells]) fun o => k o (.p objs.length 0) else .bad (.box T x)
noncomputable def zi9 (z:List AV) (ps:List (Nat × Nat × SV)) (Q:Qls) (objs:List OB) (ev:SV → AV) (k:List OB → AV → XV):XV:=match zaZ z (ps.map fun p => (p.1,p.2.1,ev p.2.2)) with
  | some cs => zcE cs fun cs => k objs (.agg cs)
  | none => .bad (.build z ps)
noncomputable def zf7 (len:Nat) (z:List AV) (ps:List (Nat × Nat × SV)) (Q:Qls) (objs:List OB) (ev:SV → AV) (k:List OB → AV → XV):XV:=match zaZ z (ps.map fun p => (p.1,p.2.1,ev p.2.2)) with
  | some cs => zcE cs fun cs => k objs (.row len cs)
  | none => .bad (.bslice len z ps)
noncomputable def h_bslo (E:Nat) (sz:Nat) (len:Nat) (z:List AV) (ps:List (Nat × Nat × SV)) (Q:Qls) (objs:List OB) (ev:SV → AV) (k:List OB → AV → XV):XV:=match zaZ z (ps.map fun p => (p.1,p.2.1,ev p.2.2)) with
  | some cs => if cs.length=len * sz then zcE cs fun cs => zcj (objs ++ [.orow E sz 0 len cs]) fun o => k o (.orow objs.length 0) else .bad (.bslo E sz len z ps)
  | none => .bad (.bslo E sz len z ps)
noncomputable def zi3 (x:SV) (Q:Qls) (objs:List OB) (ev:SV → AV) (k:List OB → AV → XV):XV:=match ev x with
  | .p b off => match objs[b]? with
   | some (.box _ cs) => match cs[off]? with
    | some v => k objs v
    | none => .bad (.load1 x)
   | _ => .bad (.load1 x)
  | .prow xs j => match xs[j]? with
   | some v => k objs v
   | none => .bad (.load1 x)
  | .porow b gen j => match objs[b]? with
   | some (.orow _ _ gen' _ xs) => if gen'=gen then (match xs[j]? with
    | some v => k objs v
    | none => .bad (.load1 x)) else .bad (.load1 x)
   | _ => .bad (.load1 x)
  | _ => .bad (.load1 x)
noncomputable def zi2 (sz:Nat) (x:SV) (Q:Qls) (objs:List OB) (ev:SV → AV) (k:List OB → AV → XV):XV:=match ev x with
  | .p b off => match objs[b]? with
   | some (.box _ cs) => if off + sz ≤ cs.length then zcE ((cs.drop off).take sz) fun cs => k objs (.agg cs) else .bad (.loadn sz x)
   | _ => .bad (.loadn sz x)
  | .prow xs j => if j + sz ≤ xs.length then zcE ((xs.drop j).take sz) fun cs => k objs (.agg cs) else .bad (.loadn sz x)
  | .porow b gen j => match objs[b]? with
   | some (.orow _ _ gen' _ xs) => if gen'=gen ∧ j + sz ≤ xs.length then zcE ((xs.drop j).take sz) fun cs => k objs (.agg cs) else .bad (.loadn sz x)
   | _ => .bad (.loadn sz x)
  | _ => .bad (.loadn sz x)
noncomputable def ziZ (sz:Nat) (x:SV) (y:SV) (Q:Qls) (objs:List OB) (ev:SV → AV) (k:List OB → AV → XV):XV:=match ev x with
  | .p b off => match objs[b]? with
   | some (.box T cs) => if (ev y).flat=true ∧ (ev y).cells.length=sz ∧ off + sz ≤ cs.length then zcE (zav cs off (ev y).cells) fun cs => zcj (objs.set b (.box T cs)) fun o => k o .u else .bad (.store sz x y)
   | _ => .bad (.store sz x y)
  | .porow b gen j => match objs[b]? with
   | some (.orow E s gen' n xs) => if gen'=gen ∧ (ev y).flat=true ∧ (ev y).cells.length=sz ∧ j + sz ≤ xs.length then zcE (zav xs j (ev y).cells) fun cs => zcj (objs.set b (.orow E s gen' n cs)) fun o => k o .u else .bad (.store sz x y)
   | _ => .bad (.store sz x y)
  | _ => .bad (.store sz x y)
noncomputable def h_nck (x:SV) (Q:Qls) (objs:List OB) (ev:SV → AV) (k:List OB → AV → XV):XV:=match ev x with
  | .p b o => k objs (.p b o)
  | .prow xs j => k objs (.prow xs j)
  | .fn f fs cs => k objs (.fn f fs cs)
  | .porow b gen j => k objs (.porow b gen j)
  | _ => .bad (.nck x)
noncomputable def h_bin (op:BinOp) (x:SV) (y:SV) (Q:Qls) (objs:List OB) (ev:SV → AV) (k:List OB → AV → XV):XV:=match quB op (ev x) (ev y) with
  | some (.s l) => zcj l fun l => k objs (.s l)
  | some v => k objs v
  | none => .bad (.bin op x y)
noncomputable def h_beq (ne:Bool) (x:SV) (y:SV) (Q:Qls) (objs:List OB) (ev:SV → AV) (k:List OB → AV → XV):XV:=match ev x,ev y with
  | .b l,.b m => k objs (.b (if ne then !(l == m) else (l == m)))
  | _,_ => .bad .mkm0
noncomputable def h_eqs (ne:Bool) (et:ET) (x:SV) (y:SV) (Q:Qls) (objs:List OB) (ev:SV → AV) (k:List OB → AV → XV):XV:=match ev x,ev y with
  | .agg xs,.agg ys => match eqA et (.agg xs) (.agg ys) with
   | some r => k objs (.b (if ne then !r else r))
   | none => .bad (.eqs ne et x y)
  | _,_ => .bad (.eqs ne et x y)
noncomputable def h_not (x:SV) (Q:Qls) (objs:List OB) (ev:SV → AV) (k:List OB → AV → XV):XV:=match ev x with
  | .b t => k objs (.b (!t))
  | _ => .bad (.not x)
noncomputable def h_neg (x:SV) (Q:Qls) (objs:List OB) (ev:SV → AV) (k:List OB → AV → XV):XV:=match ev x with
  | .i kd n => match exAr kd (0 - n) with
   | some r => k objs (.i kd r)
   | none => .bad (.neg x)
  | _ => .bad (.neg x)
noncomputable def h_cvi (kd:IntKind) (x:SV) (Q:Qls) (objs:List OB) (ev:SV → AV) (k:List OB → AV → XV):XV:=match ev x with
  | .i _ n => k objs (.i kd (wrF kd n))
  | _ => .bad (.cvi kd x)
noncomputable def h_cvs (x:SV) (Q:Qls) (objs:List OB) (ev:SV → AV) (k:List OB → AV → XV):XV:=match ev x with
  | .s l => k objs (.s l)
  | _ => .bad (.cvs x)
noncomputable def zi6 (x:SV) (Q:Qls) (objs:List OB) (ev:SV → AV) (k:List OB → AV → XV):XV:=match ev x with
  | .orow b gen => match objs[b]? with
   | some (.orow _ sz gen' _ xs) => if gen'=gen ∧ sz=1 then (match unA xs with
    | some l => zcj l fun l => k objs (.s l)
    | none => .bad (.cvbs x)) else .bad (.cvbs x)
   | _ => .bad (.cvbs x)
  | .row n xs => match unA xs with
   | some l => if n=l.length then zcj l fun l => k objs (.s l) else .bad (.cvbs x)
   | none => .bad (.cvbs x)
  | .nil => k objs (.s [])
  | _ => .bad (.cvbs x)
noncomputable def zi0 (x:SV) (lo:Option SV) (hi:Option SV) (Q:Qls) (objs:List OB) (ev:SV → AV) (k:List OB → AV → XV):XV:=match ev x with
  | .s l => match svbF ev 0 lo,svbF ev l.length hi with
   | some (.ofNat i),some (.ofNat j) => Bool.rec (motive:=fun _ => XV) (.bad (.slcs x lo hi)) (zcj ((l.take j).drop i) fun l => k objs (.s l)) (Nat.ble i j && Nat.ble j l.length)
   | _,_ => .bad (.slcs x lo hi)
  | _ => .bad (.slcs x lo hi)
noncomputable def h_fad (off:Nat) (x:SV) (Q:Qls) (objs:List OB) (ev:SV → AV) (k:List OB → AV → XV):XV:=match ev x with
  | .p b o => k objs (.p b (o + off))
  | .prow xs j => k objs (.prow xs (j + off))
  | .porow b gen j => k objs (.porow b gen (j + off))
  | _ => .bad (.fad off x)
noncomputable def h_fld1 (off:Nat) (x:SV) (Q:Qls) (objs:List OB) (ev:SV → AV) (k:List OB → AV → XV):XV:=match ev x with
  | .agg cs => match cs[off]? with
   | some v => k objs (v)
   | none => .bad (.fld1 off x)
  | _ => .bad (.fld1 off x)
noncomputable def h_fldn (off:Nat) (sz:Nat) (x:SV) (Q:Qls) (objs:List OB) (ev:SV → AV) (k:List OB → AV → XV):XV:=match ev x with
  | .agg cs => zcE ((cs.drop off).take sz) fun cs => k objs (.agg cs)
  | _ => .bad (.fldn off sz x)
noncomputable def h_iad (sz:Nat) (x:SV) (y:SV) (Q:Qls) (objs:List OB) (ev:SV → AV) (k:List OB → AV → XV):XV:=match ev x,ev y with
  | .row n xs,.i _ (.ofNat i) => Bool.rec (motive:=fun _ => XV) (.bad (.iad sz x y)) (k objs (.prow xs (Nat.mul i sz))) (Nat.blt i n && Nat.ble (Nat.mul n sz) xs.length)
  | .orow b gen,.i _ (.ofNat i) => match objs[b]? with
   | some (.orow _ s gen' n _) => Bool.rec (motive:=fun _ => XV) (.bad (.iad sz x y)) (k objs (.porow b gen (Nat.mul i sz))) (Nat.beq gen' gen && Nat.beq s sz && Nat.blt i n)
   | _ => .bad (.iad sz x y)
  | _,_ => .bad (.iad sz x y)
noncomputable def h_iada (sz:Nat) (len:Nat) (x:SV) (y:SV) (Q:Qls) (objs:List OB) (ev:SV → AV) (k:List OB → AV → XV):XV:=match ev x,ev y with
  | .p b off,.i _ i => if 0 ≤ i ∧ i < len then k objs (.p b (off + i.toNat * sz)) else .bad (.iada sz len x y)
  | _,_ => .bad (.iada sz len x y)
noncomputable def zi5 (sz:Nat) (x:SV) (y:SV) (Q:Qls) (objs:List OB) (ev:SV → AV) (k:List OB → AV → XV):XV:=match ev x,ev y with
  | .row n xs,.i _ (.ofNat i) => Bool.rec (motive:=fun _ => XV) (.bad (.iadr sz x y)) (k objs (.prow xs (Nat.mul i sz))) (Nat.blt i n && Nat.ble (Nat.mul n sz) xs.length)
  | _,_ => .bad (.iadr sz x y)
noncomputable def h_idx (x:SV) (y:SV) (Q:Qls) (objs:List OB) (ev:SV → AV) (k:List OB → AV → XV):XV:=match ev x,ev y with
  | .s l,.i _ (.ofNat n) => match idxK l n with
   | some c => k objs (.i .u8 (.ofNat c))
   | none => .bad (.idx x y)
  | _,_ => .bad (.idx x y)
noncomputable def h_ext (x:SV) (j:Nat) (Q:Qls) (objs:List OB) (ev:SV → AV) (k:List OB → AV → XV):XV:=match ev x with
  | .tup vs => match vs[j]? with
   | some v => k objs (v)
   | none => .bad (.ext x j)
  | _ => .bad (.ext x j)
noncomputable def zi8 (f:Nat) (args:List SV) (Q:Qls) (objs:List OB) (ev:SV → AV) (k:List OB → AV → XV):XV:=zcE (args.map ev) fun ag => Bool.rec (motive:=fun _ => XV) (match Q.ln f ag objs with
   | .ok _ v => k objs v
   | .bad _ => match Q.ci f ag objs with
    | .ok o v => k o v
    | .bad e => .bad e) (match Q.cp f ag with
   | .ok _ v => k objs v
   | .bad e => Bool.rec (motive:=fun _ => XV) (.bad e) (match Q.ci f ag objs with
    | .ok o v => k o v
    | .bad e => .bad e) (isM e)) (zak ag && !(Q.inn f))
noncomputable def zeY (f:Nat) (args:List SV) (Q:Qls) (objs:List OB) (ev:SV → AV) (k:List OB → AV → XV):XV:=zcE (args.map ev) fun ag => Bool.rec (motive:=fun _ => XV) (.bad (.pcall f args)) (match Q.cp f ag with
   | .ok _ v => k objs v
   | .bad e => .bad e) (zak ag)
noncomputable def zeZ (x:SV) (args:List SV) (Q:Qls) (objs:List OB) (ev:SV → AV) (k:List OB → AV → XV):XV:=match ev x with
  | .fn f fs cs => zcE (fs ++ args.map ev ++ cs) fun ag => Bool.rec (motive:=fun _ => XV) (.bad (.callv x args)) (Bool.rec (motive:=fun _ => XV) (match Q.ci f ag objs with
   | .ok o v => k o v
   | .bad e => .bad e) (match Q.cp f ag with
   | .ok _ v => k objs v
   | .bad e => Bool.rec (motive:=fun _ => XV) (.bad e) (match Q.ci f ag objs with
    | .ok o v => k o v
    | .bad e => .bad e) (isM e)) (zak ag)) (Q.has f)
  | _ => .bad (.callv x args)
noncomputable def h_inv (tab:List (Nat × Nat)) (x:SV) (args:List SV) (Q:Qls) (objs:List OB) (ev:SV → AV) (k:List OB → AV → XV):XV:=match ev x with
  | .ip T b off => match tab.lookup T with
   | some f => zcE (.p b off :: args.map ev) fun ag => match Q.ci f ag objs with
    | .ok o v => k o v
    | .bad e => .bad e
   | none => .bad (.inv tab x args)
  | _ => .bad (.inv tab x args)
noncomputable def h_app (E:Nat) (sz:Nat) (bytes:Nat) (x:SV) (y:SV) (Q:Qls) (objs:List OB) (ev:SV → AV) (k:List OB → AV → XV):XV:=match zaT objs (ev y) with
  | some (m,ys) => match ev x with
   | .orow b gen => match objs[b]? with
    | some (.orow E' sz' gen' n xs) => if (E'=E ∧ sz'=sz ∧ gen'=gen) ∧ ys.length=m * sz ∧ (n + m) * bytes ≤ 140737488355328 ∧ n + m ≤ 140737488355328 then zgc (n + m) fun nm => zcj (objs.set b (.orow E sz (gen + 1) nm (xs ++ ys))) fun o => k o (.orow b (gen + 1)) else .bad (.app E sz bytes x y)
    | _ => .bad (.app E sz bytes x y)
   | .nil => if ys.length=m * sz ∧ m * bytes ≤ 140737488355328 ∧ m ≤ 140737488355328 then zcj (objs ++ [.orow E sz 0 m ys]) fun o => k o (.orow objs.length 0) else .bad (.app E sz bytes x y)
   | _ => .bad (.app E sz bytes x y)
  | none => .bad (.app E sz bytes x y)
noncomputable def h_apps (E:Nat) (x:SV) (y:SV) (Q:Qls) (objs:List OB) (ev:SV → AV) (k:List OB → AV → XV):XV:=match ev y with
  | .s l => match ev x with
   | .orow b gen => match objs[b]? with
    | some (.orow E' sz' gen' n xs) => if (E'=E ∧ sz'=1 ∧ gen'=gen) ∧ n + l.length ≤ 140737488355328 then zgc (n + l.length) fun nm => zcj (objs.set b (.orow E 1 (gen + 1) nm (xs ++ byA l))) fun o => k o (.orow b (gen + 1)) else .bad (.apps E x y)
    | _ => .bad (.apps E x y)
   | .nil => if l.length ≤ 140737488355328 then zcj (objs ++ [.orow E 1 0 l.length (byA l)]) fun o => k o (.orow objs.length 0) else .bad (.apps E x y)
   | _ => .bad (.apps E x y)
  | _ => .bad (.apps E x y)
noncomputable def zi4 (x:SV) (Q:Qls) (objs:List OB) (ev:SV → AV) (k:List OB → AV → XV):XV:=match ev x with
  | .s l => zgc l.length fun n => k objs (.i .i64 (.ofNat n))
  | _ => .bad (.lens x)
noncomputable def h_lenr (x:SV) (Q:Qls) (objs:List OB) (ev:SV → AV) (k:List OB → AV → XV):XV:=match ev x with
  | .row n _ => k objs (.i .i64 n)
  | .nil => k objs (.i .i64 0)
  | .zn _ => k objs (.i .i64 0)
  | .orow b gen => match objs[b]? with
   | some (.orow _ _ gen' n _) => if gen'=gen then k objs (.i .i64 n) else .bad (.lenr x)
   | _ => .bad (.lenr x)
  | _ => .bad (.lenr x)
noncomputable def h_mks (E:Nat) (sz:Nat) (bytes:Nat) (x:SV) (y:SV) (Q:Qls) (objs:List OB) (ev:SV → AV) (k:List OB → AV → XV):XV:=match ev x,ev y with
  | .i _ l,.i _ c => if l=0 ∧ 0 ≤ c ∧ (bytes:Int) * c ≤ 281474976710656 ∧ c ≤ 140737488355328 then zcj (objs ++ [.orow E sz 0 0 []]) fun o => k o (.orow objs.length 0) else .bad (.mks E sz bytes x y)
  | _,_ => .bad (.mks E sz bytes x y)
noncomputable def h_mkz (E:Nat) (bytes:Nat) (kd:IntKind) (z:Int) (x:SV) (Q:Qls) (objs:List OB) (ev:SV → AV) (k:List OB → AV → XV):XV:=match ev x with
  | .i _ l => if 0 ≤ l ∧ (bytes:Int) * l ≤ 281474976710656 ∧ l ≤ 140737488355328 then zcj (objs ++ [.orow E 1 0 l.toNat (List.replicate l.toNat (.i kd z))]) fun o => k o (.orow objs.length 0) else .bad (.mkz E bytes kd z x)
  | _ => .bad (.mkz E bytes kd z x)
noncomputable def h_capp (sz:Nat) (bytes:Nat) (x:SV) (y:SV) (Q:Qls) (objs:List OB) (ev:SV → AV) (k:List OB → AV → XV):XV:=match ev x,zaT [] (ev y) with
  | .crow n xs,some (m,ys) => if (xs.length=n * sz ∧ ys.length=m * sz) ∧ 0 < m ∧ (n + m) * bytes ≤ 140737488355328 ∧ n + m ≤ 140737488355328 then zcj (xs ++ ys) fun cs => k objs (.row (n + m) cs) else .bad (.capp sz bytes x y)
  | _,_ => .bad (.capp sz bytes x y)
noncomputable def zi7 (E:Nat) (sz:Nat) (bytes:Nat) (x:SV) (y:SV) (Q:Qls) (objs:List OB) (ev:SV → AV) (k:List OB → AV → XV):XV:=match ev x,zaT objs (ev y) with
  | .crow n xs,some (m,ys) => if (xs.length=n * sz ∧ ys.length=m * sz) ∧ 0 < m ∧ (n + m) * bytes ≤ 140737488355328 ∧ n + m ≤ 140737488355328 then zcj (objs ++ [.orow E sz 0 (n + m) (xs ++ ys)]) fun o => k o (.orow objs.length 0) else .bad (.cappo E sz bytes x y)
  | _,_ => .bad (.cappo E sz bytes x y)
noncomputable def h_trn (sz:Nat) (x:SV) (y:SV) (Q:Qls) (objs:List OB) (ev:SV → AV) (k:List OB → AV → XV):XV:=match ev x,ev y with
  | .row n xs,.i _ j => if 0 ≤ j ∧ j ≤ n then zcj (xs.take (j.toNat * sz)) fun xs => k objs (.row j.toNat xs) else .bad (.trn sz x y)
  | .nil,.i _ j => if j=0 then k objs .nil else .bad (.trn sz x y)
  | .orow b gen,.i _ j => match objs[b]? with
   | some (.orow E s gen' n xs) => if gen'=gen ∧ s=sz ∧ 0 ≤ j ∧ j ≤ n then zcj (objs.set b (.orow E s (gen + 1) j.toNat (xs.take (j.toNat * s)))) fun o => k o (.orow b (gen + 1)) else .bad (.trn sz x y)
   | _ => .bad (.trn sz x y)
  | _,_ => .bad (.trn sz x y)
noncomputable def h_mkf (f:Nat) (fs:List SV) (cs:List SV) (Q:Qls) (objs:List OB) (ev:SV → AV) (k:List OB → AV → XV):XV:=zcE (fs.map ev) fun fs => zcE (cs.map ev) fun cs => k objs (.fn f fs cs)
noncomputable def h_pu (q:PQ) (xs:List SV) (Q:Qls) (objs:List OB) (ev:SV → AV) (k:List OB → AV → XV):XV:=match pq q (xs.map ev) with
  | some v => k objs (v)
  | none => .bad (.pu q xs)
noncomputable def h_mkm0 (Q:Qls) (objs:List OB) (ev:SV → AV) (k:List OB → AV → XV):XV:=zcj (objs ++ [.mp []]) fun o => k o (.m objs.length)
noncomputable def h_mkm1 (x:SV) (Q:Qls) (objs:List OB) (ev:SV → AV) (k:List OB → AV → XV):XV:=match ev x with
  | .i _ _ => zcj (objs ++ [.mp []]) fun o => k o (.m objs.length)
  | _ => .bad (.mkm1 x)
noncomputable def h_lk (z:AV) (ok:Bool) (x:SV) (y:SV) (Q:Qls) (objs:List OB) (ev:SV → AV) (k:List OB → AV → XV):XV:=match ev x,ev y with
  | .m b,.s l => match objs[b]? with
   | some (.mp es) => k objs (lkA z ok (zcD l es))
   | _ => .bad (.lk z ok x y)
  | _,_ => .bad (.lk z ok x y)
noncomputable def h_mup (x:SV) (y:SV) (v:SV) (Q:Qls) (objs:List OB) (ev:SV → AV) (k:List OB → AV → XV):XV:=match ev x,ev y with
  | .m b,.s l => match objs[b]? with
   | some (.mp es) => if (ev v).one=true then zcj (objs.set b (.mp (zca l (ev v) es))) fun o => k o (.u) else .bad (.mup x y v)
   | _ => .bad (.mup x y v)
  | _,_ => .bad (.mup x y v)
noncomputable def h_mph (q:Nat) (z:AV) (x:SV) (y:SV) (v:SV) (Q:Qls) (objs:List OB) (ev:SV → AV) (k:List OB → AV → XV):XV:=match q with
  | 0 => zcj (objs ++ [.mpk true []]) fun o => k o (.m objs.length)
  | 1 => (match ev x,hpc (ev y) with
   | .m b,some l => (match objs[b]? with
    | some (.mpk true es) => if (ev v).one=true then zcj (objs.set b (.mpk true (zca l (ev v) es))) fun o => k o (.u) else .bad (.mph q z x y v)
    | _ => .bad (.mph q z x y v))
   | _,_ => .bad (.mph q z x y v))
  | q + 2 => (match ev x,hpc (ev y) with
   | .m b,some l => (match objs[b]? with
    | some (.mpk true es) => k objs (lkA z (q == 1) (zcD l es))
    | _ => .bad (.mph q z x y v))
   | _,_ => .bad (.mph q z x y v))
noncomputable def gS (c:Qls) (op:SOp) (objs:List OB) (ev:SV → AV) (k:List OB → AV → XV):XV :=
 SOp.rec (motive:=fun _ => Qls → List OB → (SV → AV) → (List OB → AV → XV) → XV) h_mv zi1 zja h_box zi9 zf7 h_bslo zi3 zi2 ziZ h_nck h_bin h_beq h_eqs h_not h_neg h_cvi h_cvs zi6 zi0 h_fad h_fld1 h_fldn h_iad h_iada zi5 h_idx h_ext zi8 zeY zeZ h_inv h_app h_apps zi4 h_lenr h_mks h_mkz h_capp zi7 h_trn h_mkf h_pu h_mkm0 h_mkm1 h_lk h_mup h_mph op c objs ev k
theorem gS_ok {P:Program} [Tabs P] {c:Qls} (hc:QlsOk P c) {op:SOp} {objs ro:List OB} {tm:List AV} {r:AV} {k:List OB → AV → XV} {K:List OB → AV → Prop} (h:gS c op objs (fun x => x.ev tm) k=.ok ro r) (hk:∀ o v,k o v=.ok ro r → K o v):wpS P op objs tm K:=by
 cases op
 case call f args =>
  simp only [gS,zi8,za1] at h
  simp only [wpS]
  cases hp:(zak (args.map fun x => x.ev tm) && !(c.inn f)) with
  | true =>
   rw [hp] at h
   dsimp only at h
   split at h
   ·rename_i o v hv; exact hc.cp _ _ _ _ hv _ _ (hk _ _ h)
   ·rename_i e _
    cases he:isM e with
    | false => rw [he] at h; cases h
    | true =>
     rw [he] at h
     dsimp only at h
     split at h
     ·rename_i o v hv; exact hc.ci _ _ _ _ _ hv _ (hk _ _ h)
     ·cases h
  | false =>
   rw [hp] at h
   dsimp only at h
   split at h
   ·rename_i o v hv; exact hc.ln _ _ _ _ _ hv _ (hk _ _ h)
   ·split at h
    ·rename_i o v hv; exact hc.ci _ _ _ _ _ hv _ (hk _ _ h)
    ·cases h
 case pcall f args =>
  simp only [gS,zeY,za1] at h
  simp only [wpS]
  cases hp:zak (args.map fun x => x.ev tm) with
  | true =>
   rw [hp] at h
   dsimp only at h
   split at h
   ·rename_i o v hv
    exact ⟨rfl,hc.cp _ _ _ _ hv [] (fun _ r => r.plain=true ∧ K objs r) ⟨hc.pl _ _ _ _ hv,hk _ _ h⟩⟩
   ·cases h
  | false => rw [hp] at h; cases h
 case inv tab x args =>
  simp only [gS,h_inv,za1] at h
  simp only [wpS]
  split at h
  ·rename_i T b off hx
   rw [hx]
   dsimp only
   split at h
   ·rename_i f hf
    rw [hf]
    dsimp only
    split at h
    ·rename_i o v hv
     exact hc.ci _ _ _ _ _ hv _ (hk _ _ h)
    ·cases h
   ·cases h
  ·cases h
 case callv x args =>
  simp only [gS,zeZ,za1] at h
  simp only [wpS]
  split at h
  ·rename_i f fs cs hx
   rw [hx]
   dsimp only
   cases hh:c.has f with
   | false => rw [hh] at h; cases h
   | true =>
    rw [hh] at h
    dsimp only at h
    refine ⟨hc.has _ hh,?_⟩
    cases hp:zak (fs ++ (args.map fun x => x.ev tm) ++ cs) with
    | true =>
     rw [hp] at h
     dsimp only at h
     split at h
     ·rename_i o v hv; exact hc.cp _ _ _ _ hv _ _ (hk _ _ h)
     ·rename_i e _
      cases he:isM e with
      | false => rw [he] at h; cases h
      | true =>
       rw [he] at h
       dsimp only at h
       split at h
       ·rename_i o v hv; exact hc.ci _ _ _ _ _ hv _ (hk _ _ h)
       ·cases h
    | false =>
     rw [hp] at h
     dsimp only at h
     split at h
     ·rename_i o v hv; exact hc.ci _ _ _ _ _ hv _ (hk _ _ h)
     ·cases h
  ·cases h
 case bin op x y =>
  simp only [gS,h_bin,zci,quB_eq] at h
  simp only [wpS]
  split at h
  ·rename_i l hl; exact zgf hl (hk _ _ h)
  ·rename_i v hv _; exact zgf (by assumption) (hk _ _ h)
  ·cases h
 case neg x =>
  simp only [gS,h_neg] at h
  simp only [wpS]
  split at h
  ·rename_i kd n hx
   rw [hx]
   dsimp only
   split at h
   ·rename_i m hm; exact ze6 hm (hk _ _ h)
   ·cases h
  ·cases h
 case idx x y =>
  simp only [gS,h_idx] at h
  simp only [wpS]
  split at h
  ·rename_i l kd n hx hy
   rw [hx,hy]
   dsimp only
   split at h
   ·rename_i m hm
    obtain ⟨h1,h2⟩:=ziU hm
    refine ⟨⟨Int.natCast_nonneg n,Int.ofNat_lt.2 h1⟩,?_⟩
    have:=hk _ _ h
    rw [← h2] at this
    exact this
   ·cases h
  ·cases h
 case lens x =>
  simp only [gS,zi4,ze4] at h
  simp only [wpS]
  split at h
  ·rename_i l hx
   rw [hx]
   exact hk _ _ h
  ·cases h
 case slcs x lo hi =>
  simp only [gS,zi0,zci,svbF_eq] at h
  simp only [wpS]
  split at h
  ·rename_i l hx
   rw [hx]
   dsimp only
   split at h
   ·rename_i i j h1 h2
    rw [h1,h2]
    dsimp only
    cases hb:(Nat.ble i j && Nat.ble j l.length) with
    | false => rw [hb] at h; cases h
    | true =>
     rw [hb] at h
     dsimp only at h
     rw [Bool.and_eq_true,Nat.ble_eq,Nat.ble_eq] at hb
     exact ⟨⟨Int.natCast_nonneg i,Int.ofNat_le.2 hb.1,Int.ofNat_le.2 hb.2⟩,hk _ _ h⟩
   ·cases h
  ·cases h
 case cvbs x =>
  simp only [gS,zi6,zci] at h
  simp only [wpS]
  split at h
  ·rename_i b gen hx
   rw [hx]
   dsimp only
   split at h
   ·rename_i T sz gen' n xs hb
    rw [hb]
    dsimp only
    split at h
    ·rename_i c
     split at h
     ·rename_i l hl; exact ⟨c,l,zhk hl,hk _ _ h⟩
     ·cases h
    ·cases h
   ·cases h
  ·rename_i n xs hx
   rw [hx]
   dsimp only
   split at h
   ·rename_i l hl
    split at h
    ·rename_i c; exact ⟨l,⟨zhk hl,c⟩,hk _ _ h⟩
    ·cases h
   ·cases h
  ·rename_i hx
   rw [hx]
   exact hk _ _ h
  ·cases h
 case pick c x y =>
  simp only [gS,zi1] at h
  simp only [wpS]
  split at h
  ·rename_i hx
   rw [hx]
   exact ⟨fun _ => hk _ _ h,(fun e => by cases e)⟩
  ·rename_i hx
   rw [hx]
   exact ⟨(fun e => by cases e),fun _ => hk _ _ h⟩
  ·cases h
 case iad sz x y =>
  simp only [gS,h_iad] at h
  simp only [wpS]
  split at h
  ·rename_i n xs kd i hx hy
   rw [hx,hy]
   dsimp only
   cases hb:(Nat.blt i n && Nat.ble (Nat.mul n sz) xs.length) with
   | false => rw [hb] at h; cases h
   | true =>
    rw [hb] at h
    dsimp only at h
    rw [Bool.and_eq_true,zbG,decide_eq_true_eq,Nat.ble_eq] at hb
    exact ⟨⟨Int.natCast_nonneg i,Int.ofNat_lt.2 hb.1,hb.2⟩,hk _ _ h⟩
  ·rename_i b gen kd i hx hy
   rw [hx,hy]
   dsimp only
   split at h
   ·rename_i E s gen' n xs hb2
    rw [hb2]
    dsimp only
    cases hb:(Nat.beq gen' gen && Nat.beq s sz && Nat.blt i n) with
    | false => rw [hb] at h; cases h
    | true =>
     rw [hb] at h
     dsimp only at h
     rw [Bool.and_eq_true,Bool.and_eq_true,zbG,decide_eq_true_eq,Nat.beq_eq,Nat.beq_eq] at hb
     exact ⟨⟨hb.1.1,hb.1.2,Int.natCast_nonneg i,Int.ofNat_lt.2 hb.2⟩,hk _ _ h⟩
   ·cases h
  ·cases h
 case iadr sz x y =>
  simp only [gS,zi5] at h
  simp only [wpS]
  split at h
  ·rename_i n xs kd i hx hy
   rw [hx,hy]
   dsimp only
   cases hb:(Nat.blt i n && Nat.ble (Nat.mul n sz) xs.length) with
   | false => rw [hb] at h; cases h
   | true =>
    rw [hb] at h
    dsimp only at h
    rw [Bool.and_eq_true,zbG,decide_eq_true_eq,Nat.ble_eq] at hb
    exact ⟨⟨Int.natCast_nonneg i,Int.ofNat_lt.2 hb.1,hb.2⟩,hk _ _ h⟩
  ·cases h
 all_goals simp only [gS,h_mv,zi1,zja,h_box,zi9,zf7,h_bslo,zi3,zi2,ziZ,h_nck,h_bin,h_beq,h_eqs,h_not,h_neg,h_cvi,h_cvs,zi6,zi0,h_fad,h_fld1,h_fldn,h_iad,h_iada,zi5,h_idx,h_ext,zi8,zeY,zeZ,h_inv,h_app,h_apps,zi4,h_lenr,h_mks,h_mkz,h_capp,zi7,h_trn,h_mkf,h_pu,h_mkm0,h_mkm1,h_lk,h_mup,h_mph,wrF_eq,zci,za1,ze4,reduceCtorEq] at h
 all_goals simp only [wpS]
 all_goals first
  | exact hk _ _ h
  | ((repeat' split at h) <;> first | (cases h; done) | (have h9:=hk _ _ h; simp_all; done))
noncomputable def zd3 (w:Nat) (t:T8) (dst:Option Nat) (v:AV) (op:SOp) (k:T8 → XV):XV :=
 match dst with
 | none => k t
 | some d => Bool.rec (motive:=fun _ => XV) (k t) (frc v fun v => t.setK d v k) (Nat.blt d w)
theorem zbA {w:Nat} {t:T8} {tm:List AV} {dst:Option Nat} {v:AV} {op:SOp} {k:T8 → XV} {o:List OB} {r:AV} (hr:Rep w t tm) (h:zd3 w t dst v op k=.ok o r):∃ t',Rep w t' (zaj tm dst v) ∧ k t'=.ok o r:=by
 unfold zd3 at h
 split at h
 ·exact ⟨t,hr,h⟩
 ·rename_i d
  rw [zbG] at h
  by_cases e:d < w
  ·rw [decide_eq_true e] at h
   have h:(frc v fun v => t.setK d v k)=.ok o r:=h
   rw [zgb,zbz] at h
   exact ⟨_,hr.put e,h⟩
  ·rw [decide_eq_false e] at h
   have e2:tm.set d v=tm:=List.set_eq_of_length_le (by rw [hr.1]; omega)
   exact ⟨t,by show Rep w t (tm.set d v); rw [e2]; exact hr,h⟩
noncomputable def gR (c:Qls) (w:Nat) (l:List SO):List OB → T8 → (List OB → T8 → XV) → XV :=
 List.rec (motive:=fun _ => List OB → T8 → (List OB → T8 → XV) → XV) (fun o t k => k o t)
  (fun a _ ih o t k => match a with
   | ⟨dst,op,none⟩ => gS c op o (evT w t) fun o v => zd3 w t dst v op fun t => ih o t k
   | ⟨dst,op,some (g,want)⟩ => match evT w t (.t g) with
    | .b x => Bool.rec (motive:=fun _ => XV) (zd3 w t dst (.o undef) op fun t => ih o t k) (gS c op o (evT w t) fun o v => zd3 w t dst v op fun t => ih o t k) (x == want)
    | .o (.tuple _) => zd3 w t dst (.o undef) op fun t => ih o t k
    | _ => .bad op) l
theorem zfj {tm:List AV} {g:Nat} {x:Bool} (h:(tm[g]?).getD .u=.b x):tm.set g (.b x)=tm:=by
 cases e:tm[g]? with
 | none => rw [e] at h; cases h
 | some y => rw [e] at h; exact set_same (e.trans (congrArg some h))
theorem zbw {P:Program} [Tabs P] {c:Qls} (hc:QlsOk P c) {w:Nat} {ro:List OB} {r:AV}:∀ (l:List SO) {objs:List OB} {t:T8} {tm:List AV} {k:List OB → T8 → XV} {K:List OB → List AV → Prop},Rep w t tm → gR c w l objs t k=.ok ro r → (∀ o' t' tm',Rep w t' tm' → k o' t'=.ok ro r → K o' tm') → wpR P l objs tm K
 | [],objs,t,tm,k,K,hr,h,hk => hk _ _ _ hr h
 | ⟨dst,op,none⟩ :: l,objs,t,tm,k,K,hr,h,hk => by
  have h:(gS c op objs (evT w t) fun o v => zd3 w t dst v op fun t => gR c w l o t k)=.ok ro r:=h
  rw [hr.ev] at h
  simp only [wpR]
  refine gS_ok hc h fun o v h => ?_
  obtain ⟨t',hr',h⟩:=zbA hr h
  exact zbw hc l hr' h hk
 | ⟨dst,op,some (g,want)⟩ :: l,objs,t,tm,k,K,hr,h0,hk => by
  have h:(match evT w t (.t g) with
    | .b x => Bool.rec (motive:=fun _ => XV) (zd3 w t dst (.o undef) op fun t => gR c w l objs t k) (gS c op objs (evT w t) fun o v => zd3 w t dst v op fun t => gR c w l o t k) (x == want)
    | .o (.tuple _) => zd3 w t dst (.o undef) op fun t => gR c w l objs t k
    | _ => .bad op)=.ok ro r:=h0
  clear h0
  rw [hr.ev] at h
  simp only [wpR]
  split at h
  ·rename_i x hx
   have hx:(tm[g]?).getD .u=.b x:=hx
   rw [hx]
   dsimp only
   cases hw:(x == want) with
   | true =>
    rw [hw] at h
    have e:x=want:=by simpa using hw
    subst e
    refine ⟨fun _ => ?_,(fun e => by cases x <;> cases e)⟩
    rw [zfj hx]
    refine gS_ok hc h fun o v h => ?_
    obtain ⟨t',hr',h⟩:=zbA hr h
    exact zbw hc l hr' h hk
   | false =>
    rw [hw] at h
    have e:x=!want:=by cases x <;> cases want <;> first | rfl | cases hw
    subst e
    refine ⟨(fun e => by cases want <;> cases e),fun _ => ?_⟩
    rw [zfj hx]
    obtain ⟨t',hr',h⟩:=zbA hr h
    exact zbw hc l hr' h hk
  ·rename_i vs hx
   have hx:(tm[g]?).getD .u=.o (.tuple vs):=hx
   rw [hx]
   obtain ⟨t',hr',h⟩:=zbA hr h
   exact zbw hc l hr' h hk
  ·cases h
noncomputable def gOD (c:Qls) (op:SOp) (objs:List OB) (ev:SV → AV) (k:List OB → AV → XV):XV :=
 Bool.rec (motive:=fun _ => XV) (gS c op objs ev k) (match op with
  | .call f args => zcE (args.map ev) fun ag => Bool.rec (motive:=fun _ => XV) (match c.ln f ag objs with
   | .ok _ v => k objs v
   | .bad e => .bad e) (match c.cp f ag with
   | .ok _ v => k objs v
   | .bad e => .bad e) (zak ag)
  | .pcall f args => zcE (args.map ev) fun ag => Bool.rec (motive:=fun _ => XV) (.bad op) (match c.cp f ag with
   | .ok _ v => k objs v
   | .bad e => .bad e) (zak ag)
  | _ => .bad op) op.isCall
theorem gOD_ok {P:Program} [Tabs P] {c:Qls} (hc:QlsOk P c) {op:SOp} {objs ro:List OB} {tm:List AV} {r:AV} {k:List OB → AV → XV} {K:List OB → AV → Prop} (h:gOD c op objs (fun x => x.ev tm) k=.ok ro r) (hk:∀ o v,k o v=.ok ro r → K o v):if op.isCall=true then ∃ v,wpS P op objs tm (fun o x => o=objs ∧ x=v) ∧ K objs v else wpS P op objs tm K:=by
 unfold gOD at h
 cases hi:op.isCall with
 | false => rw [hi] at h; rw [if_neg (by decide)]; exact gS_ok hc h hk
 | true =>
  rw [hi] at h
  rw [if_pos rfl]
  dsimp only at h
  split at h
  ·rename_i f args
   rw [za1] at h
   cases hp:zak (args.map fun x => x.ev tm) with
   | true =>
    rw [hp] at h
    dsimp only at h
    split at h
    ·rename_i o v hv; exact ⟨v,hc.cp _ _ _ _ hv _ _ ⟨rfl,rfl⟩,hk _ _ h⟩
    ·cases h
   | false =>
    rw [hp] at h
    dsimp only at h
    split at h
    ·rename_i o v hv; exact ⟨v,hc.ln _ _ _ _ _ hv _ ⟨rfl,rfl⟩,hk _ _ h⟩
    ·cases h
  ·rename_i f args
   rw [za1] at h
   cases hp:zak (args.map fun x => x.ev tm) with
   | true =>
    rw [hp] at h
    dsimp only at h
    split at h
    ·rename_i o v hv; exact ⟨v,⟨hp,hc.cp _ _ _ _ hv [] (fun _ r => r.plain=true ∧ (objs=objs ∧ r=v)) ⟨hc.pl _ _ _ _ hv,rfl,rfl⟩⟩,hk _ _ h⟩
    ·cases h
   | false => rw [hp] at h; cases h
  ·cases h
noncomputable def gD (c:Qls) (w:Nat) (l:List SO):List OB → T8 → (List OB → T8 → XV) → XV :=
 List.rec (motive:=fun _ => List OB → T8 → (List OB → T8 → XV) → XV) (fun o t k => k o t)
  (fun a _ ih o t k => match a with
   | ⟨dst,op,none⟩ => gOD c op o (evT w t) fun o v => zd3 w t dst v op fun t => ih o t k
   | ⟨dst,op,some (g,want)⟩ => match evT w t (.t g) with
    | .b x => Bool.rec (motive:=fun _ => XV) (zd3 w t dst (.o undef) op fun t => ih o t k) (gOD c op o (evT w t) fun o v => zd3 w t dst v op fun t => ih o t k) (x == want)
    | .o (.tuple _) => zd3 w t dst (.o undef) op fun t => ih o t k
    | _ => .bad op) l
theorem zji {P:Program} [Tabs P] {c:Qls} (hc:QlsOk P c) {w:Nat} {ro:List OB} {r:AV}:∀ (l:List SO) {objs:List OB} {t:T8} {tm:List AV} {k:List OB → T8 → XV} {K:List OB → List AV → Prop},Rep w t tm → gD c w l objs t k=.ok ro r → (∀ o' t' tm',Rep w t' tm' → k o' t'=.ok ro r → K o' tm') → wpD P l objs tm K
 | [],objs,t,tm,k,K,hr,h,hk => hk _ _ _ hr h
 | ⟨dst,op,none⟩ :: l,objs,t,tm,k,K,hr,h,hk => by
  have h:(gOD c op objs (evT w t) fun o v => zd3 w t dst v op fun t => gD c w l o t k)=.ok ro r:=h
  rw [hr.ev] at h
  simp only [wpD]
  refine gOD_ok hc (K:=fun o v => wpD P l o (zaj tm dst v) K) h fun o v h => ?_
  obtain ⟨t',hr',h⟩:=zbA hr h
  exact zji hc l hr' h hk
 | ⟨dst,op,some (g,want)⟩ :: l,objs,t,tm,k,K,hr,h0,hk => by
  have h:(match evT w t (.t g) with
    | .b x => Bool.rec (motive:=fun _ => XV) (zd3 w t dst (.o undef) op fun t => gD c w l objs t k) (gOD c op objs (evT w t) fun o v => zd3 w t dst v op fun t => gD c w l o t k) (x == want)
    | .o (.tuple _) => zd3 w t dst (.o undef) op fun t => gD c w l objs t k
    | _ => .bad op)=.ok ro r:=h0
  clear h0
  rw [hr.ev] at h
  simp only [wpD]
  split at h
  ·rename_i x hx
   have hx:(tm[g]?).getD .u=.b x:=hx
   rw [hx]
   dsimp only
   cases hw:(x == want) with
   | true =>
    rw [hw] at h
    have e:x=want:=by simpa using hw
    subst e
    refine ⟨fun _ => ?_,(fun e => by cases x <;> cases e)⟩
    rw [zfj hx]
    refine gOD_ok hc (K:=fun o v => wpD P l o (zaj tm dst v) K) h fun o v h => ?_
    obtain ⟨t',hr',h⟩:=zbA hr h
    exact zji hc l hr' h hk
   | false =>
    rw [hw] at h
    have e:x=!want:=by cases x <;> cases want <;> first | rfl | cases hw
    subst e
    refine ⟨(fun e => by cases want <;> cases e),fun _ => ?_⟩
    rw [zfj hx]
    obtain ⟨t',hr',h⟩:=zbA hr h
    exact zji hc l hr' h hk
  ·rename_i vs hx
   have hx:(tm[g]?).getD .u=.o (.tuple vs):=hx
   rw [hx]
   obtain ⟨t',hr',h⟩:=zbA hr h
   exact zji hc l hr' h hk
  ·cases h
def udA:Value → Bool
 | .tuple a => decide (a=#[])
 | _ => false
mutual
def samA:Nat → AV → AV → Bool
 | 0,_,_ => false
 | _ + 1,.s l,.s m => decide (l=m)
 | _ + 1,.i a n,.i b m => decide (a=b) && decide (n=m)
 | _ + 1,.b x,.b y => x == y
 | k + 1,.agg xs,.agg ys => zgL k xs ys
 | k + 1,.tup xs,.tup ys => zgL k xs ys
 | _ + 1,.p a b,.p c d => decide (a=c) && decide (b=d)
 | k + 1,.row n xs,.row m ys => decide (n=m) && zgL k xs ys
 | k + 1,.prow xs n,.prow ys m => decide (n=m) && zgL k xs ys
 | k + 1,.crow n xs,.crow m ys => decide (n=m) && zgL k xs ys
 | _ + 1,.orow a b,.orow c d => decide (a=c) && decide (b=d)
 | _ + 1,.porow a b e,.porow c d f => decide (a=c) && (decide (b=d) && decide (e=f))
 | _ + 1,.m a,.m b => decide (a=b)
 | _ + 1,.zn a,.zn b => a == b
 | _ + 1,.nil,.nil => true
 | _ + 1,.u,.u => true
 | k + 1,.fn f a b,.fn g c d => decide (f=g) && (zgL k a c && zgL k b d)
 | _ + 1,.o v,.o w => udA v && udA w
 | _ + 1,_,_ => false
def zgL:Nat → List AV → List AV → Bool
 | 0,_,_ => false
 | _ + 1,[],[] => true
 | k + 1,x :: xs,y :: ys => samA k x y && zgL k xs ys
 | _ + 1,_,_ => false
end
theorem udA_ok {v:Value} (h:udA v=true):v=.tuple #[]:=by
 unfold udA at h
 split at h
 ·rw [of_decide_eq_true h]
 ·cases h
mutual
theorem zeO:∀ {k:Nat} {x y:AV},samA k x y=true → x=y
 | 0,x,y,h => by rw [samA] at h; cases h
 | k + 1,x,y,h => by
  cases x <;> cases y <;> simp only [samA,Bool.and_eq_true,decide_eq_true_eq,beq_iff_eq,reduceCtorEq,Bool.false_eq_true] at h
  case s.s => rw [h]
  case i.i => rw [h.1,h.2]
  case b.b => rw [h]
  case agg.agg => rw [zbB h]
  case tup.tup => rw [zbB h]
  case p.p => rw [h.1,h.2]
  case row.row => rw [h.1,zbB h.2]
  case prow.prow => rw [h.1,zbB h.2]
  case crow.crow => rw [h.1,zbB h.2]
  case orow.orow => rw [h.1,h.2]
  case porow.porow => rw [h.1,h.2.1,h.2.2]
  case m.m => rw [h]
  case zn.zn => rw [h]
  case nil.nil => rfl
  case u.u => rfl
  case fn.fn => rw [h.1,zbB h.2.1,zbB h.2.2]
  case o.o => rw [udA_ok h.1,udA_ok h.2]
theorem zbB:∀ {k:Nat} {x y:List AV},zgL k x y=true → x=y
 | 0,x,y,h => by rw [zgL] at h; cases h
 | k + 1,[],[],h => rfl
 | k + 1,[],_ :: _,h => by simp only [zgL,Bool.false_eq_true] at h
 | k + 1,_ :: _,[],h => by simp only [zgL,Bool.false_eq_true] at h
 | k + 1,x :: xs,y :: ys,h => by
  simp only [zgL,Bool.and_eq_true] at h
  rw [zeO h.1,zbB h.2]
end
def zht:T8 → T8 → Bool
 | .lf x,.lf y => samA 200 x y
 | .nd a b,.nd c d => zht a c && zht b d
 | _,_ => false
theorem zeN:∀ {x y:T8},zht x y=true → x=y
 | .lf x,.lf y,h => by rw [zht] at h; rw [zeO h]
 | .nd a b,.nd c d,h => by rw [zht,Bool.and_eq_true] at h; rw [zeN h.1,zeN h.2]
 | .lf x,.nd _ _,h => by simp [zht] at h
 | .nd _ _,.lf _,h => by simp [zht] at h
theorem Rep.inj {w:Nat} {t:T8} {tm tm':List AV} (h:Rep w t tm) (h':Rep w t tm'):tm=tm':=by
 obtain ⟨h1,D,_,_,h2⟩:=h
 obtain ⟨h1',D',_,_,h2'⟩:=h'
 apply List.ext_getElem (h1.trans h1'.symm)
 intro n hn hn'
 have e1:=h2 n (by omega)
 have e2:=h2' n (by omega)
 rw [List.getElem?_eq_getElem hn] at e1
 rw [List.getElem?_eq_getElem hn'] at e2
 exact e1.symm.trans e2
abbrev HsT:=List (List SO × T8 × T8)
noncomputable def gRe (c:Qls) (w:Nat):HsT → List OB → XV
 | [],o => .ok o .u
 | e :: r,o => match gR c w e.1 o e.2.1 (fun _ x => Bool.rec (motive:=fun _ => XV) (.bad .mkm0) (.ok [] .u) (zht x e.2.2)) with
  | .ok _ _ => gRe c w r o
  | .bad e => .bad e
def zd5 (w:Nat):HsT → Hst → Prop
 | [],[] => True
 | a :: r,b :: s => (a.1=b.1 ∧ Rep w a.2.1 b.2.1 ∧ Rep w a.2.2 b.2.2) ∧ zd5 w r s
 | _,_ => False
theorem zd5.cons {w:Nat} {l:List SO} {t u:T8} {tm um:List AV} {h:HsT} {hs:Hst} (h1:Rep w t tm) (h2:Rep w u um) (h3:zd5 w h hs):zd5 w ((l,t,u) :: h) ((l,tm,um) :: hs):=⟨⟨rfl,h1,h2⟩,h3⟩
theorem zd5.nil {w:Nat}:zd5 w [] []:=trivial
theorem zga {P:Program} [Tabs P] {c:Qls} (hc:QlsOk P c) {w:Nat} {l:List SO} {objs ro:List OB} {t u:T8} {tm um:List AV} {r:AV} (hr:Rep w t tm) (hu:Rep w u um) (h:gR c w l objs t (fun _ x => Bool.rec (motive:=fun _ => XV) (.bad .mkm0) (.ok [] .u) (zht x u))=.ok ro r):wpR P l objs tm (fun _ x => x=um):=by
 refine zbw hc l hr h fun o' t' tm' hr' h => ?_
 cases e:zht t' u with
 | false => rw [e] at h; cases h
 | true =>
  have:=zeN e
  subst this
  exact hr'.inj hu
theorem zdt {P:Program} [Tabs P] {c:Qls} (hc:QlsOk P c) {w:Nat}:∀ {h:HsT} {hs:Hst} {o ro:List OB} {r:AV},zd5 w h hs → gRe c w h o=.ok ro r → zaL P hs o
 | [],[],o,ro,r,hr,h => trivial
 | a :: l,b :: s,o,ro,r,hr,h => by
  rw [gRe] at h
  split at h
  ·rename_i x y hx
   obtain ⟨⟨h1,h2,h3⟩,h4⟩:=hr
   rw [h1] at hx
   exact ⟨zga hc h2 h3 hx,zdt hc h4 h⟩
  ·cases h
 | [],_ :: _,_,_,_,hr,h => hr.elim
 | _ :: _,[],_,_,_,hr,h => hr.elim
noncomputable def gT (c:Qls) (w:Nat):List (List SO × SO) → HsT → List SO → List OB → T8 → (List OB → T8 → XV) → XV
 | [],_,last,o,t,k => gR c w last o t k
 | (L,cl) :: r,hist,last,o,t,k => gR c w L o t fun _ u => gR c w [cl] o u fun o' t' => match gRe c w ((L,t,u) :: hist) o' with
  | .ok _ _ => gT c w r ((L,t,u) :: hist) last o' t' k
  | .bad e => .bad e
theorem gT_ok {P:Program} [Tabs P] {c:Qls} (hc:QlsOk P c) {w:Nat} {ro:List OB} {r:AV}:∀ {st:List (List SO × SO)} {h:HsT} {hs:Hst} {last:List SO} {o:List OB} {t:T8} {tm:List AV} {k:List OB → T8 → XV} {K:List OB → List AV → Prop},zd5 w h hs → Rep w t tm → gT c w st h last o t k=.ok ro r → (∀ o' t' tm',Rep w t' tm' → k o' t'=.ok ro r → K o' tm') → wpT P st hs last o tm K
 | [],h,hs,last,o,t,tm,k,K,hh,hr,he,hk => by
  rw [gT] at he
  exact zbw hc _ hr he hk
 | (L,cl) :: st,h,hs,last,o,t,tm,k,K,hh,hr,he,hk => by
  rw [gT] at he
  rw [wpT]
  refine zbw hc _ hr he fun _ u um hu he => ?_
  refine zbw hc _ hu he fun o' t' tm' hr' he => ?_
  split at he
  ·rename_i x y hx
   have h2:zd5 w ((L,t,u) :: h) ((L,tm,um) :: hs):=zd5.cons hr hu hh
   exact ⟨zdt hc h2 hx,gT_ok hc h2 hr' he hk⟩
  ·cases he
noncomputable def both (x y:XV):XV :=
 match x with
 | .ok [] r => (match y with
  | .ok [] r' => Bool.rec (motive:=fun _ => XV) (.bad .mkm0) (.ok [] r) (samA 200 r r')
  | .ok _ _ => .bad .mkm0
  | .bad e => .bad e)
 | .ok _ _ => .bad .mkm0
 | .bad e => .bad e
theorem both_ok {x y:XV} {o:List OB} {r:AV} (h:both x y=.ok o r):x=.ok o r ∧ y=.ok o r:=by
 cases x with
 | bad e => cases h
 | ok ox rx =>
  cases ox with
  | cons _ _ => cases h
  | nil =>
   cases y with
   | bad e => cases h
   | ok oy ry =>
    cases oy with
    | cons _ _ => cases h
    | nil =>
     have h:(Bool.rec (motive:=fun _ => XV) (.bad .mkm0) (.ok [] rx) (samA 200 rx ry):XV)=.ok o r:=h
     cases e:samA 200 rx ry with
     | false => rw [e] at h; cases h
     | true => rw [e] at h; rw [← zeO e]; exact ⟨h,h⟩
noncomputable def hsT (w d:Nat) (p:AV):HsT → (HsT → XV) → XV
 | [],k => k []
 | e :: r,k => e.2.1.setK d p fun a => e.2.2.setK d p fun b => hsT w d p r fun r => k ((e.1,a,b) :: r)
theorem ziW {w d:Nat} (hd:d < w) {p:AV}:∀ {h:HsT} {hs:Hst} {k:HsT → XV} {o:List OB} {r:AV},zd5 w h hs → hsT w d p h k=.ok o r → ∃ h',zd5 w h' (hsV d p hs) ∧ k h'=.ok o r
 | [],[],k,o,r,hh,h => ⟨[],trivial,h⟩
 | a :: l,b :: s,k,o,r,hh,h => by
  rw [hsT,zbz,zbz] at h
  obtain ⟨⟨h1,h2,h3⟩,h4⟩:=hh
  obtain ⟨h',e1,e2⟩:=ziW hd h4 h
  refine ⟨_,?_,e2⟩
  exact ⟨⟨h1,h2.put hd,h3.put hd⟩,e1⟩
 | [],_ :: _,_,_,_,hr,h => hr.elim
 | _ :: _,[],_,_,_,hr,h => hr.elim
noncomputable def gB (c:Qls) (w d T:Nat) (z:List AV):List (List SO × SO) → HsT → List SO → List OB → T8 → (List OB → T8 → XV) → XV
 | [],hist,last,o,t,k => gR c w last o t fun _ u => hsT w d (.p o.length 0) ((last,t,u) :: hist) fun h => match gRe c w h (o ++ [.box T z]) with
  | .ok _ _ => u.setK d (.p o.length 0) fun u => k (o ++ [.box T z]) u
  | .bad e => .bad e
 | (L,cl) :: r,hist,last,o,t,k => gR c w L o t fun _ u => both
  (hsT w d (.p o.length 0) ((L,t,u) :: hist) fun h => match gRe c w h (o ++ [.box T z]) with
   | .ok _ _ => u.setK d (.p o.length 0) fun u => gR c w [cl] (o ++ [.box T z]) u fun o' t' => (match gRe c w h o' with
    | .ok _ _ => gT c w r h last o' t' k
    | .bad e => .bad e)
   | .bad e => .bad e)
  (gR c w [cl] o u fun o' t' => match gRe c w ((L,t,u) :: hist) o' with
   | .ok _ _ => gB c w d T z r ((L,t,u) :: hist) last o' t' k
   | .bad e => .bad e)
theorem gB_ok {P:Program} [Tabs P] {c:Qls} (hc:QlsOk P c) {w d T:Nat} {z:List AV} (hd:d < w) {ro:List OB} {r:AV}:∀ {st:List (List SO × SO)} {h:HsT} {hs:Hst} {last:List SO} {o:List OB} {t:T8} {tm:List AV} {k:List OB → T8 → XV} {K:List OB → List AV → Prop},zd5 w h hs → Rep w t tm → gB c w d T z st h last o t k=.ok ro r → (∀ o' t' tm',Rep w t' tm' → k o' t'=.ok ro r → K o' tm') → wpB P d T z st hs last o tm K
 | [],h,hs,last,o,t,tm,k,K,hh,hr,he,hk => by
  rw [gB] at he
  rw [wpB]
  refine zbw hc _ hr he fun _ u um hu he => ?_
  obtain ⟨h',hh',he⟩:=ziW hd (hs:=(last,tm,um) :: hs) (zd5.cons hr hu hh) he
  split at he
  ·rename_i x y hx
   rw [zbz] at he
   exact ⟨zdt hc hh' hx,hk _ _ _ (hu.put hd) he⟩
  ·cases he
 | (L,cl) :: st,h,hs,last,o,t,tm,k,K,hh,hr,he,hk => by
  rw [gB] at he
  rw [wpB]
  refine zbw hc _ hr he fun _ u um hu he => ?_
  obtain ⟨he1,he2⟩:=both_ok he
  have h2:zd5 w ((L,t,u) :: h) ((L,tm,um) :: hs):=zd5.cons hr hu hh
  constructor
  ·obtain ⟨h',hh',he⟩:=ziW hd h2 he1
   split at he
   ·rename_i x y hx
    rw [zbz] at he
    refine ⟨zdt hc hh' hx,zbw hc _ (hu.put hd) he fun o' t' tm' hr' he => ?_⟩
    split at he
    ·rename_i x y hx
     exact ⟨zdt hc hh' hx,gT_ok hc hh' hr' he hk⟩
    ·cases he
   ·cases he
  ·refine zbw hc _ hu he2 fun o' t' tm' hr' he => ?_
   split at he
   ·rename_i x y hx
    exact ⟨zdt hc h2 hx,gB_ok hc hd h2 hr' he hk⟩
   ·cases he
theorem samB {x:XV} {o ro:List OB} {r:AV} {b:Bool} {e:SOp} (h:(Bool.rec (motive:=fun _ => XV) (.bad e) x b:XV)=.ok ro r):b=true ∧ x=.ok ro r:=by
 cases b with
 | false => cases h
 | true => exact ⟨rfl,h⟩
instance (x y:Option AV):Decidable (zbn x y):=by unfold zbn; split <;> infer_instance
instance (x y:Option AV):Decidable (apS x y):=by unfold apS; split <;> infer_instance
instance (x:Option AV) (b:Bool) (p:Prop) [Decidable p]:Decidable (apB x b p):=by unfold apB; split <;> infer_instance
noncomputable def slT (w:Nat) (t:T8) (n:Nat):Option AV:=Bool.rec (motive:=fun _ => Option AV) none (some (t.get n)) (Nat.blt n w)
theorem slT_eq {w:Nat} {t:T8} {tm:List AV} (h:Rep w t tm) (n:Nat):slT w t n=tm[n]?:=by
 obtain ⟨h1,D,h2,h3,h4⟩:=h
 unfold slT
 rw [zbG]
 by_cases e:n < w
 ·rw [decide_eq_true e]
  have:=h4 n e
  rw [List.getElem?_eq_getElem (by omega)] at this ⊢
  exact congrArg some this
 ·rw [decide_eq_false e,List.getElem?_eq_none (by omega)]
noncomputable def apT (w:Nat) (t:T8):List (Nat × Nat × Option (Nat × Bool)) → Bool
 | [] => true
 | (s,s',g) :: r => (if s' < 1000000 then (match g with
   | none => decide (zbn (slT w t s) (slT w t s'))
   | some (g,want) => decide (apB (slT w t g) want (zbn (slT w t s) (slT w t s')))) else decide (apS (slT w t s) (slT w t (s' - 1000000)))) && apT w t r
theorem apT_ok {w:Nat} {t:T8} {tm:List AV} (hr:Rep w t tm):∀ {l:List (Nat × Nat × Option (Nat × Bool))},apT w t l=true → zcH l tm
 | [],h => trivial
 | (s,s',g) :: r,h => by
  simp only [apT,Bool.and_eq_true] at h
  refine ⟨?_,apT_ok hr h.2⟩
  have h1:=h.1
  simp only [slT_eq hr] at h1
  split at h1
  ·rename_i hs
   rw [if_pos hs]
   cases g with
   | none => show zbn _ _; exact of_decide_eq_true h1
   | some g => obtain ⟨g,want⟩:=g; show apB _ _ _; exact of_decide_eq_true h1
  ·rename_i hs
   rw [if_neg hs]
   exact of_decide_eq_true h1
noncomputable def gC (c:Qls) (w F:Nat) (sc:SCode):List OB → T8 → (List OB → T8 → XV) → (Nat → List OB → T8 → XV) → (List OB → T8 → XV) → XV :=
 SCode.rec (motive:=fun _ => List OB → T8 → (List OB → T8 → XV) → (Nat → List OB → T8 → XV) → (List OB → T8 → XV) → XV)
  (fun o t kn kx kr => kn o t)
  (fun l o t kn kx kr => gR c w l o t kn)
  (fun l k ap o t kn kx kr => gD c w (l.take k) o t fun o t => Bool.rec (motive:=fun _ => XV) (.bad .mkm0) (gR c w (l.drop k) o t kn) (apT w t ap))
  (fun pre cl post o t kn kx kr => gR c w pre o t fun _ t1 => gR c w [cl] o t1 fun o2 t2 => match gR c w pre o2 t (fun _ x => Bool.rec (motive:=fun _ => XV) (.bad .mkm0) (.ok [] .u) (zht x t1)) with
   | .ok _ _ => gR c w post o2 t2 kn
   | .bad e => .bad e)
  (fun st last o t kn kx kr => gT c w st [] last o t kn)
  (fun d T z st last sr o t kn kx kr => Bool.rec (motive:=fun _ => XV) (.bad .mkm0) (gB c w d T z st [] last o t fun o t => gR c w [sr] o t kn) (Nat.ble w 1000003 && Nat.blt d w))
  (fun _ _ fx fy o t kn kx kr => fx o t (fun o t => fy o t kn kx kr) kx kr)
  (fun b _ _ fx fy o t kn kx kr => match evT w t b with
   | .b true => fx o t kn kx kr
   | .b false => fy o t kn kx kr
   | _ => .bad (.mv b))
  (fun id _ fx o t kn kx kr => fx o t kn (fun i o t => Bool.rec (motive:=fun _ => XV) (kx i o t) (kn o t) (Nat.beq i id)) kr)
  (fun _ fx o t kn kx kr => Nat.rec (motive:=fun _ => List OB → T8 → XV) (fun _ _ => .bad .mkm0) (fun _ ih o t => fx o t ih kx kr) F o t)
  (fun id o t kn kx kr => kx id o t)
  (fun o t kn kx kr => kr o t)
  (fun _ _ _ _ _ => .bad .mkm0) sc
theorem ze2 {P:Program} [Tabs P] {C:Cx} [On P C] {c:Qls} (hc:QlsOk P c) {w F:Nat} {ro:List OB} {r:AV}:∀ (sc:SCode) {o:List OB} {t:T8} {tm:List AV} {kn:List OB → T8 → XV} {kx:Nat → List OB → T8 → XV} {kr:List OB → T8 → XV} {K:zas},Rep w t tm → gC c w F sc o t kn kx kr=.ok ro r →
  (∀ o' t' tm',Rep w t' tm' → kn o' t'=.ok ro r → K .normal o' tm') → (∀ i o' t' tm',Rep w t' tm' → kx i o' t'=.ok ro r → K (.exit i) o' tm') → (∀ o' t' tm',Rep w t' tm' → kr o' t'=.ok ro r → K .ret o' tm') → wpC P C sc K o tm
 | .skip,o,t,tm,kn,kx,kr,K,hr,h,h1,h2,h3 => h1 _ _ _ hr h
 | .reg l,o,t,tm,kn,kx,kr,K,hr,h,h1,h2,h3 => by
  simp only [wpC]
  exact zbw hc l hr h h1
 | .drw l k ap,o,t,tm,kn,kx,kr,K,hr,h,h1,h2,h3 => by
  simp only [wpC]
  refine zji hc _ hr h fun o' t' tm' hr' h => ?_
  obtain ⟨ha,h⟩:=samB (o:=o) h
  exact ⟨apT_ok hr' ha,zbw hc _ hr' h h1⟩
 | .crg pre cl post,o,t,tm,kn,kx,kr,K,hr,h,h1,h2,h3 => by
  simp only [wpC]
  refine zbw hc _ hr h fun _ t1 tm1 hr1 h => ?_
  refine zbw hc _ hr1 h fun o2 t2 tm2 hr2 h => ?_
  split at h
  ·rename_i x y hx
   exact ⟨zga hc hr hr1 hx,zbw hc _ hr2 h h1⟩
  ·cases h
 | .crs st last,o,t,tm,kn,kx,kr,K,hr,h,h1,h2,h3 => by
  simp only [wpC]
  exact gT_ok hc (hs:=[]) zd5.nil hr h h1
 | .cra d T z st last sr,o,t,tm,kn,kx,kr,K,hr,h,h1,h2,h3 => by
  simp only [wpC]
  obtain ⟨ha,h⟩:=samB (o:=o) h
  rw [Bool.and_eq_true,Nat.ble_eq,zbG,decide_eq_true_eq] at ha
  refine ⟨by rw [hr.1]; exact ha.1,gB_ok hc ha.2 (hs:=[]) zd5.nil hr h fun o' t' tm' hr' h => zbw hc _ hr' h h1⟩
 | .seq x y,o,t,tm,kn,kx,kr,K,hr,h,h1,h2,h3 => by
  simp only [wpC]
  exact ze2 hc x hr h (fun o' t' tm' hr' h => ze2 hc y hr' h h1 h2 h3) h2 h3
 | .cond b x y,o,t,tm,kn,kx,kr,K,hr,h,h1,h2,h3 => by
  simp only [wpC]
  have h:(match evT w t b with
   | .b true => gC c w F x o t kn kx kr
   | .b false => gC c w F y o t kn kx kr
   | _ => .bad (.mv b))=.ok ro r:=h
  rw [hr.ev] at h
  split at h
  ·rename_i hb
   have hb:b.ev tm=_:=hb
   rw [hb]
   exact ⟨fun _ => ze2 hc x hr h h1 h2 h3,(fun e => by cases e)⟩
  ·rename_i hb
   have hb:b.ev tm=_:=hb
   rw [hb]
   exact ⟨(fun e => by cases e),fun _ => ze2 hc y hr h h1 h2 h3⟩
  ·cases h
 | .blk id x,o,t,tm,kn,kx,kr,K,hr,h,h1,h2,h3 => by
  simp only [wpC]
  refine ze2 hc x hr h h1 (fun i o' t' tm' hr' h => ?_) h3
  show if i=id then _ else _
  by_cases e:i=id
  ·subst e
   rw [if_pos rfl]
   rw [Nat.beq_refl] at h
   exact h1 _ _ _ hr' h
  ·rw [if_neg e]
   rw [show Nat.beq i id=false from by rw [Bool.eq_false_iff]; intro h; exact e (Nat.eq_of_beq_eq_true h)] at h
   exact h2 _ _ _ _ hr' h
 | .loop x,o,t,tm,kn,kx,kr,K,hr,h,h1,h2,h3 => by
  refine zfg (fun m o tm => ∃ t,Rep w t tm ∧ (Nat.rec (motive:=fun _ => List OB → T8 → XV) (fun _ _ => .bad .mkm0) (fun _ ih o t => gC c w F x o t ih kx kr) m:List OB → T8 → XV) o t=.ok ro r) F ⟨t,hr,h⟩ ?_
  rintro m o tm ⟨t,hr,h⟩
  cases m with
  | zero => cases h
  | succ m =>
   exact ze2 hc x hr h (fun o' t' tm' hr' h => ⟨m,Nat.lt_succ_self m,t',hr',h⟩) h2 h3
 | .exit id,o,t,tm,kn,kx,kr,K,hr,h,h1,h2,h3 => h2 _ _ _ _ hr h
 | .ret,o,t,tm,kn,kx,kr,K,hr,h,h1,h2,h3 => h3 _ _ _ hr h
 | .dead,o,t,tm,kn,kx,kr,K,hr,h,h1,h2,h3 => by cases h
mutual
/-- the value as it is given away, k steps -/
def zdd:Nat → List OB → Nat → AV → Option AV
 | 0,_,_,_ => none
 | k + 1,objs,d,.agg cs => (zcu k objs d cs).map .agg
 | k + 1,objs,d,.tup cs => (zcu k objs d cs).map .tup
 | k + 1,objs,0,.orow _ _ => none
 | k + 1,objs,d + 1,.orow b gen => match objs[b]? with
  | some (.orow _ _ gen' n xs) => if gen'=gen then (zcu k objs d xs).map (.row n) else none
  | _ => none
 | k + 1,objs,d,x => if x.plain=true then some x else none
def zcu:Nat → List OB → Nat → List AV → Option (List AV)
 | 0,_,_,_ => none
 | k + 1,_,_,[] => some []
 | k + 1,objs,d,x :: xs => match zdd k objs d x,zcu k objs d xs with
  | some y,some ys => some (y :: ys)
  | _,_ => none
end
mutual
theorem zge:∀ {k:Nat} {objs:List OB} {d:Nat} {x r:AV},zdd k objs d x=some r → pub objs d x=some r
 | 0,objs,d,x,r,h => by rw [zdd] at h; cases h
 | k + 1,objs,d,x,r,h => by
  cases x with
  | agg cs =>
   cases d <;> (simp only [zdd] at h; simp only [pub]; obtain ⟨ys,hy,rfl⟩:=Option.map_eq_some_iff.1 h; rw [zb3 hy]; rfl)
  | tup cs =>
   cases d <;> (simp only [zdd] at h; simp only [pub]; obtain ⟨ys,hy,rfl⟩:=Option.map_eq_some_iff.1 h; rw [zb3 hy]; rfl)
  | orow b gen =>
   cases d with
   | zero => simp only [zdd,reduceCtorEq] at h
   | succ d =>
    simp only [zdd] at h
    simp only [pub]
    split at h
    ·rename_i E sz gen' n xs hb
     try rw [hb]
     try dsimp only
     split at h
     ·rename_i hg
      rw [if_pos hg]
      obtain ⟨ys,hy,rfl⟩:=Option.map_eq_some_iff.1 h
      rw [zb3 hy]; rfl
     ·cases h
    ·cases h
  | _ => cases d <;> (simp only [zdd] at h; simp only [pub]; exact h)
theorem zb3:∀ {k:Nat} {objs:List OB} {d:Nat} {xs rs:List AV},zcu k objs d xs=some rs → zcf objs d xs=some rs
 | 0,objs,d,xs,rs,h => by rw [zcu] at h; cases h
 | k + 1,objs,d,[],rs,h => by
  simp only [zcu] at h
  rw [zcf]; exact h
 | k + 1,objs,d,x :: xs,rs,h => by
  simp only [zcu] at h
  rw [zcf]
  split at h
  ·rename_i y ys h1 h2
   rw [zge h1,zb3 h2]; exact h
  ·cases h
end
noncomputable def resT (objs:List OB) (w:Nat) (t:T8):SRes → Option AV
 | .tmp n => slT w t n
 | .cell1 n => match slT w t n with
  | some (.p b off) => match objs[b]? with
   | some (.box _ cs) => cs[off]?
   | _ => none
  | _ => none
 | .celln n sz => match slT w t n with
  | some (.p b off) => match objs[b]? with
   | some (.box _ cs) => if off + sz ≤ cs.length then some (.agg ((cs.drop off).take sz)) else none
   | _ => none
  | _ => none
noncomputable def zhP (objs:List OB) (w:Nat) (t:T8):List SRes → Option (List AV)
 | [] => some []
 | r :: rs => match resT objs w t r,zhP objs w t rs with
  | some x,some xs => some (x :: xs)
  | _,_ => none
theorem zdG {objs:List OB} {w:Nat} {t:T8} {tm:List AV} (h:Rep w t tm):∀ ss,zhP objs w t ss=zbv objs tm ss
 | [] => rfl
 | r :: rs => by
  rw [zhP,zbv,zdG h rs]
  have e:resT objs w t r=zgQ objs tm r:=by
   cases r <;> simp only [resT,zgQ,slT_eq h] <;> rfl
  rw [e]
  all_goals rfl
noncomputable def setA (l:List AV):Nat → T8 → (T8 → XV) → XV :=
 List.rec (motive:=fun _ => Nat → T8 → (T8 → XV) → XV) (fun _ t k => k t) (fun a _ ih i t k => t.setK i a fun t => ih (Nat.succ i) t k) l
theorem zhr {o:List OB} {r:AV} {w:Nat}:∀ {l:List AV} {pre:List AV} {t:T8} {k:T8 → XV},pre.length + l.length ≤ w → Rep w t (pre ++ List.replicate (w - pre.length) (.o undef)) → setA l pre.length t k=.ok o r → ∃ t',Rep w t' (pre ++ l ++ List.replicate (w - (pre.length + l.length)) (.o undef)) ∧ k t'=.ok o r
 | [],pre,t,k,hl,hr,h => ⟨t,by simpa using hr,h⟩
 | a :: l,pre,t,k,hl,hr,h => by
  have h:(t.setK pre.length a fun t => setA l (Nat.succ pre.length) t k)=.ok o r:=h
  rw [zbz] at h
  rw [List.length_cons] at hl
  have h2:=hr.put (n:=pre.length) (v:=a) (by omega)
  have e:(pre ++ List.replicate (w - pre.length) (AV.o undef)).set pre.length a=(pre ++ [a]) ++ List.replicate (w - (pre ++ [a]).length) (.o undef):=by
   rw [List.set_append_right _ _ (Nat.le_refl _),Nat.sub_self,show w - pre.length=(w - (pre ++ [a]).length) + 1 from by rw [List.length_append,List.length_singleton]; omega,List.replicate_succ,List.set_cons_zero,List.append_assoc]; rfl
  rw [e] at h2
  have e3:Nat.succ pre.length=(pre ++ [a]).length:=by simp
  rw [e3] at h
  obtain ⟨t',h3,h4⟩:=zhr (by rw [List.length_append,List.length_singleton]; omega) h2 h
  refine ⟨t',?_,h4⟩
  rw [List.length_append,List.length_singleton] at h3
  rw [List.length_cons,show pre.length + (l.length + 1)=pre.length + 1 + l.length from by omega,show pre ++ a :: l=pre ++ [a] ++ l from by simp]
  exact h3
theorem rep_mk {w:Nat}:Rep w (T8.mk (Nat.succ (Nat.log2 w))) (List.replicate w (.o undef)):=by
 refine ⟨List.length_replicate,_,ze3 _,?_,fun n hn => ?_⟩
 ·have:=@Nat.lt_log2_self w; exact Nat.le_of_lt this
 ·rw [get_mk,List.getElem?_replicate,if_pos hn]; rfl
structure Ent (P:Program) where
 f:Nat
 n:Nat
 ss:List SRes
 sc:SCode
 is:FnIs P f n ss sc
inductive TB (P:Program) where
 | e
 | lf (x:Ent P)
 | nd (l r:TB P)
noncomputable def TB.get {P:Program} (t:TB P):Nat → Option (Ent P) :=
 TB.rec (motive:=fun _ => Nat → Option (Ent P)) (fun _ => none) (fun x _ => some x) (fun _ _ gl gr n => Bool.rec (motive:=fun _ => Option (Ent P)) (gr (Nat.div n 2)) (gl (Nat.div n 2)) (Nat.beq (Nat.mod n 2) 0)) t
noncomputable def gF {P:Program} (c:Qls) (F:Nat) (e:Ent P) (args:List AV) (objs:List OB) (k:List OB → AV → XV):XV :=
 Bool.rec (motive:=fun _ => XV) (.bad (.call e.f [])) (setA args 0 (T8.mk (Nat.succ (Nat.log2 e.n))) fun t => gC c e.n F e.sc objs t (fun o t => match zhP o e.n t e.ss with
   | some xs => zcE xs fun xs => frc (zeF xs) fun x => k o x
   | none => .bad (.call e.f [])) (fun _ _ _ => .bad (.call e.f [])) (fun o t => match zhP o e.n t e.ss with
   | some xs => zcE xs fun xs => frc (zeF xs) fun x => k o x
   | none => .bad (.call e.f []))) (Nat.ble args.length e.n)
theorem gF_ok {P:Program} [Tabs P] {C:Cx} [On P C] {c:Qls} (hc:QlsOk P c) {F:Nat} {e:Ent P} {args:List AV} {objs ro:List OB} {r:AV} {k:List OB → AV → XV} {K:zas} (h:gF c F e args objs k=.ok ro r) (hk:∀ o tm xs,zbv o tm e.ss=some xs → k o (zeF xs)=.ok ro r → K .normal o tm ∧ K .ret o tm):wpC P C e.sc K objs (args ++ List.replicate (e.n - args.length) (.o undef)):=by
 obtain ⟨ha,h⟩:=samB (o:=objs) h
 rw [Nat.ble_eq] at ha
 obtain ⟨t,hr,h⟩:=zhr (pre:=[]) (by simpa using ha) (by simpa using rep_mk) h
 have hr:Rep e.n t (args ++ List.replicate (e.n - args.length) (.o undef)):=by simpa using hr
 refine ze2 hc e.sc hr h (fun o' t' tm' hr' h => ?_) (fun i o' t' tm' hr' h => by cases h) (fun o' t' tm' hr' h => ?_)
 ·rw [zdG hr'] at h
  split at h
  ·rename_i xs hx; rw [za1,zgb] at h; exact (hk _ _ _ hx h).1
  ·cases h
 ·rw [zdG hr'] at h
  split at h
  ·rename_i xs hx; rw [za1,zgb] at h; exact (hk _ _ _ hx h).2
  ·cases h
noncomputable def gN {P:Program} (tbl:TB P) (lib:Nat → List AV → Option AV) (has inn:Nat → Bool) (F:Nat) (q:Qls):Qls :=
 ⟨fun f args => match lib f args with
   | some r => Bool.rec (motive:=fun _ => XV) (.bad (.call f [])) (.ok [] r) r.plain
   | none => match tbl.get f with
    | none => .bad (.call f [])
    | some e => Bool.rec (motive:=fun _ => XV) (.bad (.call f [])) (match gF q F e args [] (fun o r => match zdd F o 5 r with
      | some r => .ok [] r
      | none => .bad .mkm0) with
     | .ok _ r => Bool.rec (motive:=fun _ => XV) (.bad .mkm0) (.ok [] r) r.plain
     | .bad e => .bad e) (Nat.beq e.f f && zak args),
  fun f args objs => match tbl.get f with
   | none => .bad (.call f [])
   | some e => Bool.rec (motive:=fun _ => XV) (.bad (.call f [])) (gF q F e args objs fun o r => .ok o r) (Nat.beq e.f f),has,inn,fun f _ _ => .bad (.call f [])⟩
noncomputable def gT2 {P:Program} (tr:Qls → Qls) (tbl:TB P) (lib:Nat → List AV → Option AV) (has inn:Nat → Bool) (F:Nat) (k:Nat):Qls :=
 Nat.rec (motive:=fun _ => Qls) ⟨fun f _ => .bad (.call f []),fun f _ _ => .bad (.call f []),fun _ => false,fun _ => false,fun f _ _ => .bad (.call f [])⟩ (fun _ q => tr (gN tbl lib has inn F q)) k
theorem gN_ok {P : Program} [Tabs P] (tbl : TB P) (lib : Nat → List AV → Option AV) (has inn : Nat → Bool) (hl : ∀ f args r, lib f args = some r → ∀ (objs : List OB) (K : List OB → AV → Prop), K objs r → zae P f args objs K) (hh : ∀ f, has f = true → ∃ fn, P.funcs[f]? = some fn ∧ fn.body.isSome = true ∧ fn.name ≠ "runtime.NumGoroutine") (F : Nat) {q : Qls} (ih : QlsOk P q) : QlsOk P (gN tbl lib has inn F q) := by
 have hcp:∀ f args o r,(gN tbl lib has inn F q).cp f args=.ok o r → r.plain=true ∧ ∀ (objs:List OB) (K:List OB → AV → Prop),K objs r → zae P f args objs K:=by
  intro f args o r h
  have h:(match lib f args with
  | some r => Bool.rec (motive:=fun _ => XV) (.bad (.call f [])) (.ok [] r) r.plain
  | none => match tbl.get f with
   | none => .bad (.call f [])
   | some e => Bool.rec (motive:=fun _ => XV) (.bad (.call f [])) (match gF q F e args [] (fun o r => match zdd F o 5 r with
     | some r => .ok [] r
     | none => .bad .mkm0) with
    | .ok _ r => Bool.rec (motive:=fun _ => XV) (.bad .mkm0) (.ok [] r) r.plain
    | .bad e => .bad e) (Nat.beq e.f f && zak args))=.ok o r:=h
  split at h
  ·rename_i x hx
   obtain ⟨hp,h⟩:=samB (o:=o) h
   injection h with h1 h2
   subst h2
   exact ⟨hp,fun objs K hk => hl _ _ _ hx objs K hk⟩
  ·split at h
   ·cases h
   ·rename_i e he
    obtain ⟨hb,h5⟩:=samB (o:=o) h
    clear h
    rw [Bool.and_eq_true,Nat.beq_eq] at hb
    obtain ⟨hf,hp⟩:=hb
    subst hf
    split at h5
    ·rename_i o1 r1 hg
     obtain ⟨hr,h6⟩:=samB (o:=o) h5
     injection h6 with h1 h2
     subst h2
     refine ⟨hr,fun objs K hk => fn_ok e.is hp fun C _ => gF_ok ih hg fun o tm xs hx h => ?_⟩
     have hq:outK e.ss (fun r => K objs r) o tm:=by
      unfold outK
      rw [hx,Option.bind_some]
      split at h
      ·rename_i z hz
       injection h with h3 h4
       subst h4
       rw [zge hz]; exact hk
      ·cases h
     exact ⟨hq,hq⟩
    ·cases h5
 refine ⟨fun f args o r h => (hcp f args o r h).2,fun f args o r h => (hcp f args o r h).1,fun f args objs o r h K hk => ?_,(fun _ _ _ _ _ h => by cases h),hh⟩
 have h:(match tbl.get f with
  | none => .bad (.call f [])
  | some e => Bool.rec (motive:=fun _ => XV) (.bad (.call f [])) (gF q F e args objs fun o r => .ok o r) (Nat.beq e.f f))=XV.ok o r:=h
 split at h
 ·cases h
 ·rename_i e he
  obtain ⟨hf,h9⟩:=samB (o:=o) h
  clear h
  rw [Nat.beq_eq] at hf
  subst hf
  refine fn_in e.is fun C _ => gF_ok ih h9 fun o1 tm xs hx h => ?_
  injection h with h3 h4
  subst h3 h4
  have hq:zg8 e.ss K o1 tm:=by unfold zg8; rw [hx]; exact hk
  exact ⟨hq,hq⟩
theorem gT2_ok {P : Program} [Tabs P] {tr : Qls → Qls} (ht : ∀ q, QlsOk P q → QlsOk P (tr q)) (tbl : TB P) (lib : Nat → List AV → Option AV) (has inn : Nat → Bool) (hl : ∀ f args r, lib f args = some r → ∀ (objs : List OB) (K : List OB → AV → Prop), K objs r → zae P f args objs K) (hh : ∀ f, has f = true → ∃ fn, P.funcs[f]? = some fn ∧ fn.body.isSome = true ∧ fn.name ≠ "runtime.NumGoroutine") (F : Nat) : ∀ k, QlsOk P (gT2 tr tbl lib has inn F k)
 | 0 => ⟨(fun _ _ _ _ h => by cases h),(fun _ _ _ _ h => by cases h),(fun _ _ _ _ _ h => by cases h),(fun _ _ _ _ _ h => by cases h),(fun _ h => by cases h)⟩
 | k + 1 => ht _ (gN_ok tbl lib has inn hl hh F (gT2_ok ht tbl lib has inn hl hh F k))
end Go.Proofs.YtbeoijfmfkifeaaGreatDoor.Sx
namespace Go.Proofs.YtbeoijfmfkifeaaGreatDoor.Sx
open Go.RowKit
theorem zd0 {k:IntKind} {r:Int} {K K':Int → Prop} (hk:∀ v,K v → K' v) (h:arK k r K):arK k r K':=by
 cases k
 all_goals first | exact hk _ h | exact ⟨h.1,hk _ h.2⟩
theorem zjV {op:BinOp} {x y:AV} {K K':AV → Prop} (hk:∀ v,K v → K' v) (h:zjW op x y K):zjW op x y K':=by
 unfold zjW at h ⊢
 split at h
 ·refine ⟨h.1,?_⟩
  replace h:=h.2
  cases op
  all_goals first
   | exact h.elim
   | exact zd0 (fun _ g => hk _ g) h
   | exact ⟨h.1,zd0 (fun _ g => hk _ g) h.2⟩
   | exact ⟨h.1,hk _ h.2⟩
   | exact hk _ h
 all_goals
  revert h
  cases op
  all_goals first
   | exact fun h => h.elim
   | exact fun h => ⟨h.1,hk _ h.2⟩
   | exact fun h => hk _ h
section
variable {P:Program} [Tabs P] {C:Cx}
theorem zcA {so:SOp} {objs:List OB} {tm:List AV} {K K':List OB → AV → Prop} (hk:∀ o v,K o v → K' o v) (h:wpS P so objs tm K):wpS P so objs tm K':=by
 cases so
 all_goals simp only [wpS] at h ⊢
 all_goals try exact hk _ _ h
 all_goals try exact ⟨h.1,hk _ _ h.2⟩
 all_goals try exact zjV (fun _ g => hk _ _ g) h
 all_goals try exact h.mono hk
 all_goals try exact ⟨h.1,h.2.mono fun _ _ g => ⟨g.1,hk _ _ g.2⟩⟩
 all_goals
  revert h
  repeat' split
  all_goals first
   | exact fun h => h.elim
   | exact fun h => hk _ _ h
   | exact fun h => ⟨h.1,hk _ _ h.2⟩
   | exact fun h => zd0 (fun _ g => hk _ _ g) h
   | exact fun h => ⟨fun e => hk _ _ (h.1 e),fun e => hk _ _ (h.2 e)⟩
   | exact fun ⟨v,h1,h2⟩ => ⟨v,h1,hk _ _ h2⟩
   | exact fun ⟨h0,l,h1,h2⟩ => ⟨h0,l,h1,hk _ _ h2⟩
   | exact fun h => ⟨h.1,h.2.mono hk⟩
   | exact fun h => h.mono hk
theorem zaz:∀ {l:List SO} {objs:List OB} {tm:List AV} {K K':List OB → List AV → Prop},(∀ o t,K o t → K' o t) → wpR P l objs tm K → wpR P l objs tm K'
 | [],_,_,_,_,hk,h => hk _ _ h
 | ⟨dst,op,none⟩ :: r,_,_,_,_,hk,h => zcA (fun _ _ g => zaz hk g) h
 | ⟨dst,op,some (t,want)⟩ :: r,objs,tm,K,K',hk,h => by
  simp only [wpR] at h ⊢
  revert h
  split
  ·exact fun h => ⟨fun e => zcA (fun _ _ g => zaz hk g) (h.1 e),fun e => zaz hk (h.2 e)⟩
  ·exact fun h => zaz hk h
  ·exact fun h => h.elim
theorem zbp:∀ {l:List SO} {objs:List OB} {tm:List AV} {K K':List OB → List AV → Prop},(∀ o t,K o t → K' o t) → wpD P l objs tm K → wpD P l objs tm K'
 | [],_,_,_,_,hk,h => hk _ _ h
 | ⟨dst,op,none⟩ :: r,_,_,_,_,hk,h => by
  simp only [wpD] at h ⊢
  revert h
  split
  ·exact fun ⟨v,h1,h2⟩ => ⟨v,h1,zbp hk h2⟩
  ·exact fun h => zcA (fun _ _ g => zbp hk g) h
 | ⟨dst,op,some (t,want)⟩ :: r,objs,tm,K,K',hk,h => by
  simp only [wpD] at h ⊢
  revert h
  split
  ·refine fun h => ⟨fun e => ?_,fun e => zbp hk (h.2 e)⟩
   have h1:=h.1 e
   revert h1
   split
   ·exact fun ⟨v,h1,h2⟩ => ⟨v,h1,zbp hk h2⟩
   ·exact fun h => zcA (fun _ _ g => zbp hk g) h
  ·exact fun h => zbp hk h
  ·exact fun h => h.elim
theorem zgJ {N N':List OB → List AV → Prop} {K K':zas} (hn:∀ o t,N o t → N' o t) (hk:∀ e o t,K e o t → K' e o t):∀ e o t,zbQ N K e o t → zbQ N' K' e o t:=by
 intro e o t h
 cases e <;> first | exact hn _ _ h | exact hk _ _ _ h
theorem zjU {id:Nat} {K K':zas} (hk:∀ e o t,K e o t → K' e o t):∀ e o t,blkK id K e o t → blkK id K' e o t:=by
 intro e o t h
 cases e
 all_goals try exact hk _ _ _ h
 rename_i i
 unfold blkK at h ⊢
 simp only at h ⊢
 split at h
 ·rename_i g; rw [if_pos g]; exact hk _ _ _ h
 ·rename_i g; rw [if_neg g]; exact hk _ _ _ h
theorem zdB:∀ (st:List (List SO × SO)) (h:List (List SO × List AV × List AV)) (last:List SO) (o:List OB) (t:List AV) {K K':List OB → List AV → Prop},(∀ o t,K o t → K' o t) → wpT P st h last o t K → wpT P st h last o t K'
 | [],h,last,o,t,K,K',hk,g => zaz hk g
 | (L,c) :: st,h,last,o,t,K,K',hk,g => zaz (fun _ _ g => zaz (fun _ _ g => ⟨g.1,zdB st _ last _ _ hk g.2⟩) g) g
theorem zfh (d:Nat) (T:TypeId) (z:List AV):∀ (st:List (List SO × SO)) (h:List (List SO × List AV × List AV)) (last:List SO) (o:List OB) (t:List AV) {K K':List OB → List AV → Prop},(∀ o t,K o t → K' o t) → wpB P d T z st h last o t K → wpB P d T z st h last o t K'
 | [],h,last,o,t,K,K',hk,g => zaz (fun _ _ g => ⟨g.1,hk _ _ g.2⟩) g
 | (L,c) :: st,h,last,o,t,K,K',hk,g => zaz (fun _ _ g => ⟨⟨g.1.1,zaz (fun _ _ g => ⟨g.1,zdB st _ last _ _ hk g.2⟩) g.1.2⟩,zaz (fun _ _ g => ⟨g.1,zfh d T z st _ last _ _ hk g.2⟩) g.2⟩) g
theorem zbI:∀ (c:SCode) {K K':zas} {objs:List OB} {tm:List AV},(∀ e o t,K e o t → K' e o t) → wpC P C c K objs tm → wpC P C c K' objs tm
 | .skip,_,_,_,_,hk,h => hk _ _ _ h
 | .reg l,_,_,_,_,hk,h => zaz (fun _ _ g => hk _ _ _ g) h
 | .drw l k ap,_,_,_,_,hk,h => zbp (fun _ _ g => ⟨g.1,zaz (fun _ _ g => hk _ _ _ g) g.2⟩) h
 | .crg pre cl post,_,_,_,_,hk,h => zaz (fun _ _ g => zaz (fun _ _ g => ⟨g.1,zaz (fun _ _ g => hk _ _ _ g) g.2⟩) g) h
 | .crs st last,_,_,_,_,hk,h => zdB st [] last _ _ (fun _ _ g => hk _ _ _ g) h
 | .cra d T z st last sr,_,_,_,_,hk,h => ⟨h.1,zfh d T z st [] last _ _ (fun _ _ g => zaz (fun _ _ g => hk _ _ _ g) g) h.2⟩
 | .seq x y,_,_,_,_,hk,h => zbI x (zgJ (fun _ _ g => zbI y hk g) hk) h
 | .cond c x y,_,_,_,_,hk,h => by
  simp only [wpC] at h ⊢
  revert h
  split
  ·exact fun h => ⟨fun e => zbI x hk (h.1 e),fun e => zbI y hk (h.2 e)⟩
  ·exact fun h => h.elim
 | .blk id c,_,_,_,_,hk,h => zbI c (zjU hk) h
 | .loop c,_,_,_,_,hk,h => fun c hc => WP.mono (fun e o t g => by cases e <;> first | exact hk _ _ _ g | exact g) (h c hc)
 | .exit id,_,_,_,_,hk,h => hk _ _ _ h
 | .ret,_,_,_,_,hk,h => hk _ _ _ h
 | .dead,_,_,_,_,hk,h => h.elim
def cutF (P:Program) [Tabs P] (C:Cx) (J:List OB → List AV → Prop) (k:List IT) (F:zas):zas:=zbQ J (zgA P C F k)
variable {F:zas} {k:List IT} {objs:List OB} {tm:List AV}
theorem zai (J:List OB → List AV → Prop):cutF P C J k F .normal objs tm=J objs tm:=Eq.trans rfl rfl
theorem zeA (J:List OB → List AV → Prop) (id:Nat):cutF P C J k F (.exit id) objs tm=xit P C id k objs tm F:=Eq.trans rfl rfl
theorem zba {x:SCode} (J:List OB → List AV → Prop) (h:run P C [.code x] objs tm (cutF P C J k F)) (hJ:∀ o t,J o t → run P C k o t F):run P C (.code x :: k) objs tm F :=
 zbI x (fun e o t g => by
  cases e
  ·exact hJ _ _ g
  all_goals exact g) h
end
end Go.Proofs.YtbeoijfmfkifeaaGreatDoor.Sx
namespace Go.Proofs.YtbeoijfmfkifeaaGreatDoor.Sx
open Go.RowKit
section
variable {P:Program} [Tabs P] {C:Cx} {F:zas} {k:List IT} {objs:List OB} {tm:List AV}
theorem zaa {x y:SCode} (h:∀ Y,Y=y → run P C (.code x :: .code Y :: k) objs tm F):run P C (.code (.seq x y) :: k) objs tm F:=h y rfl
end
end Go.Proofs.YtbeoijfmfkifeaaGreatDoor.Sx
