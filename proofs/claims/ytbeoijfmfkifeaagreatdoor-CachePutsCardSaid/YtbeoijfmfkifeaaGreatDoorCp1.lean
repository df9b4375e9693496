/- The texts that the proofs of these statements reach, in their order, as few files. -/
import Derived.WalkKit
import Derived.Orders
import Derived.Deep.MidRow
import Derived.Laws.IdiomCopy
import Derived.Maps.AppendAt
import Derived.Laws.StructEq
import Derived.Laws.Slices
import Derived.Lib.ConvBytes
import Derived.Lib.AppendStr
import Derived.Laws.IdiomStrings
import Derived.Laws.BytesString
import Derived.Deep.OwnRows
import Derived.Great.BuildSlice
import Derived.MapKept
import Derived.DeepKeys3
set_option linter.unusedVariables false
set_option linter.unusedSimpArgs false
set_option maxRecDepth 100000
namespace Go.Proofs.YtbeoijfmfkifeaaGreatDoor.Sx
open Go.RowKit
open List renaming all_eq_true->zj, append_assoc->zu, cons->qj, eq_nil_of_length_eq_zero->qh, getElem?_append_left->qr, getElem?_append_right->jy, getElem?_drop->ju, getElem?_eq_getElem->zq, getElem?_eq_none->qg, getElem?_eq_some_iff->jf, getElem?_set_ne->zp, getElem?_set_self->qd, getElem?_take->xh, length_append->zg, length_cons->zl, length_drop->zt, length_map->jg, length_set->zf, length_take->zh, map_cons->zr, map_nil->qf, map_toArray->xv, mem_append->zw, mem_cons->zv, mem_of_mem_drop->ji, mem_of_mem_take->jo, mem_singleton->xi, nil_append->qn, replicate->qo, size_toArray->xo, take_of_length_le->je, take_succ_eq_append_getElem->qm, take_take->xp
open Nat renaming eq_zero_or_pos->jm, le_refl->zd, le_trans->jr, lt_of_lt_of_le->xu, lt_or_ge->zo, min_eq_left->xq, mul_le_mul_right->jb, mul_one->qt, zero_add->zz, zero_le->ze
open Option renaming map_eq_some_iff->xf, map_some->jt, some->zx
inductive AV where
 | s (l:List UInt8)
 | i (k:IntKind) (n:Int)
 | b (x:Bool)
 | agg (cs:List AV)
 | tup (cs:List AV)
 | p (b off:Nat)
 | row (n:Nat) (xs:List AV)
 | prow (xs:List AV) (j:Nat)
 | crow (n:Nat) (xs:List AV)
 | orow (b gen:Nat)
 | porow (b gen j:Nat)
 | bsl (b off n:Nat)
 | m (b:Nat)
 | ip (T b off:Nat)
 | zn (b:Bool)
 | nil
 | fn (f:Nat) (first caps:List AV)
 | o (v:Value)
 | u
inductive OB where
 | box (T:TypeId) (cs:List AV)
 | orow (E sz gen n:Nat) (xs:List AV)
 | mpk (h:Bool) (es:List (List UInt8×AV))
 | dead
@[match_pattern] abbrev OB.mp (es:List (List UInt8×AV)):OB:=.mpk false es
structure Gh where
 blk:Nat->Option Nat
 cur:Nat->Option (Nat×Value)
def Gh.own (G:Gh) (b:Nat):Option Nat :=
 match G.blk b with
 | some g=>some g
 | none=>match G.cur b with
  | some p=>p.2.ownBlock
  | none=>none
theorem Co {G:Gh} {b g:Nat} (h:G.blk b=some g):G.own b=some g:=by simp[Gh.own,h]
theorem FL {G:Gh} {b n:Nat} {v:Value} (h:G.blk b=none) (h':G.cur b=some (n,v)):G.own b=v.ownBlock:=by simp[Gh.own,h,h']
abbrev Ak:=Nat->Nat->Value->Prop
mutual
def Ab (G:Gh) (I:Ak):AV->Value->Prop
 | .s l,y=>y=.string ⟨l.toArray⟩
 | .i k n,y=>y=.int k n
 | .b x,y=>y=.bool x
 | .agg cs,y=>∃ys,y=.agg ys.toArray/\Ac G I cs ys/\∀u∈ys,u.oneCell'=true
 | .tup cs,y=>∃ys,y=.tuple ys.toArray/\Ac G I cs ys
 | .p b off,y=>∃g,G.blk b=some g/\y=.pointer (some ⟨g,off,none⟩)
 | .row n xs,y=>∃a c ys,y=.slice a n c/\(n<=c/\∀ad:Addr,a=some ad->c≠0->ad.spot=none)/\Ac G I xs ys/\(∀u∈ys,u.oneCell'=true)/\∀j u,ys[j]? = some u->∃g off,a=some ⟨g,off,none⟩/\I g (off+j) u
 | .prow xs j,y=>∃g off ys,y=.pointer (some ⟨g,off+j,none⟩)/\Ac G I xs ys/\(∀u∈ys,u.oneCell'=true)/\∀j u,ys[j]? = some u->I g (off+j) u
 | .crow n xs,y=>∃a ys,y=.slice a n n/\(∀ad:Addr,a=some ad->n≠0->ad.spot=none)/\Ac G I xs ys/\(∀u∈ys,u.oneCell'=true)/\∀j u,ys[j]? = some u->∃g off,a=some ⟨g,off,none⟩/\I g (off+j) u
 | .orow b gen,y=>∃g' v,G.cur b=some (g',v)/\gen<=g'/\(gen=g'->y=v)/\y.oneCell'=true
 | .porow b gen j,y=>∃g' v g,G.cur b=some (g',v)/\gen<=g'/\y=.pointer (some ⟨g,j,none⟩)/\(gen=g'->∃n c,v=.slice (some ⟨g,0,none⟩) n c)
 | .bsl b off n,y=>∃g c,G.blk b=some g/\y=.slice (some ⟨g,off,none⟩) n c/\n<=c
 | .m b,y=>∃g,G.blk b=some g/\y=.map (some g)
 | .ip T b off,y=>∃g,G.blk b=some g/\y=.iface T (.pointer (some ⟨g,off,none⟩))
 | .zn b,y=>∃a c,y=.slice a 0 c/\a.isNone=b/\∀ad:Addr,a=some ad->c≠0->ad.spot=none
 | .nil,y=>y=.slice none 0 0
 | .fn f fs cs,y=>∃us ys,y=.func (.func f) us.toArray ys.toArray/\Ac G I fs us/\Ac G I cs ys
 | .o v,y=>y=v
 | .u,y=>True
def Ac (G:Gh) (I:Ak):List AV->List Value->Prop
 | [],ys=>ys=[]
 | x::xs,ys=>∃y ys',ys=y::ys'/\Ab G I x y/\Ac G I xs ys'
end
structure Gh.le (G G':Gh):Prop where
 blk:∀b g,G.blk b=some g->G'.blk b=some g
 cur:∀b n v,G.cur b=some (n,v)->∃n' v',G'.cur b=some (n',v')/\(n'=n/\v'=v\/n<n')
theorem Gh.le.refl (G:Gh):G.le G:=⟨fun _ _ h=>h,fun _ n v h=>⟨n,v,h,.inl ⟨rfl,rfl⟩⟩⟩
theorem Gh.le.trans {a b c:Gh} (h:a.le b) (k:b.le c):a.le c:=by
 refine⟨fun x g hx=>k.blk x g (h.blk x g hx),fun x n v hx=>?_⟩;obtain⟨n1,v1,h1,h2⟩:=h.cur x n v hx;obtain⟨n2,v2,h3,h4⟩:=k.cur x n1 v1 h1;refine⟨n2,v2,h3,?_⟩;rcases h2 with ⟨rfl,rfl⟩|h2
 ·exact h4
 ·rcases h4 with ⟨rfl,_⟩|h4
  ·exact .inr h2
  ·exact .inr (by omega)
def Ak.le (I I':Ak):Prop:=∀g o v,I g o v->I' g o v
mutual
theorem Ab.mono {G G':Gh} {I I':Ak} (hG:G.le G') (hI:Ak.le I I'):∀(x:AV) (y:Value),Ab G I x y->Ab G' I' x y
 | .s l,y,h=>by simpa[Ab] using h
 | .i k n,y,h=>by simpa[Ab] using h
 | .b x,y,h=>by simpa[Ab] using h
 | .agg cs,y,h=>by
  simp only[Ab] at h ⊢;obtain⟨ys,h1,h2,h3⟩:=h;exact⟨ys,h1,Ac.mono hG hI cs ys h2,h3⟩
 | .tup cs,y,h=>by
  simp only[Ab] at h ⊢;obtain⟨ys,h1,h2⟩:=h;exact⟨ys,h1,Ac.mono hG hI cs ys h2⟩
 | .p b off,y,h=>by
  simp only[Ab] at h ⊢;obtain⟨g,h1,h2⟩:=h;exact⟨g,hG.blk _ _ h1,h2⟩
 | .row n xs,y,h=>by
  simp only[Ab] at h ⊢;obtain⟨a,c,ys,h1,h2,h3,h4,h5⟩:=h;refine⟨a,c,ys,h1,h2,Ac.mono hG hI xs ys h3,h4,fun j u hj=>?_⟩;obtain⟨g,off,e,hi⟩:=h5 j u hj;exact⟨g,off,e,hI _ _ _ hi⟩
 | .prow xs j,y,h=>by
  simp only[Ab] at h ⊢;obtain⟨g,off,ys,h1,h3,h4,h5⟩:=h;exact⟨g,off,ys,h1,Ac.mono hG hI xs ys h3,h4,fun j u hj=>hI _ _ _ (h5 j u hj)⟩
 | .crow n xs,y,h=>by
  simp only[Ab] at h ⊢;obtain⟨a,ys,h1,h2,h3,h4,h5⟩:=h;refine⟨a,ys,h1,h2,Ac.mono hG hI xs ys h3,h4,fun j u hj=>?_⟩;obtain⟨g,off,e,hi⟩:=h5 j u hj;exact⟨g,off,e,hI _ _ _ hi⟩
 | .orow b gen,y,h=>by
  simp only[Ab] at h ⊢;obtain⟨g',v,h1,h2,h3,h0⟩:=h;obtain⟨n',v',e,h4⟩:=hG.cur _ _ _ h1;refine⟨n',v',e,?_,?_,h0⟩
  ·rcases h4 with ⟨rfl,_⟩|h4<;>omega
  ·rcases h4 with ⟨rfl,rfl⟩|h4
   ·exact h3
   ·intro e;omega
 | .porow b gen j,y,h=>by
  simp only[Ab] at h ⊢;obtain⟨g',v,g,h1,h2,h0,h3⟩:=h;obtain⟨n',v',e,h4⟩:=hG.cur _ _ _ h1;refine⟨n',v',g,e,?_,h0,?_⟩
  ·rcases h4 with ⟨rfl,_⟩|h4<;>omega
  ·rcases h4 with ⟨rfl,rfl⟩|h4
   ·exact h3
   ·intro e;omega
 | .bsl b off n,y,h=>by
  simp only[Ab] at h ⊢;obtain⟨g,c,h1,h2⟩:=h;exact⟨g,c,hG.blk _ _ h1,h2⟩
 | .m b,y,h=>by
  simp only[Ab] at h ⊢;obtain⟨g,h1,h2⟩:=h;exact⟨g,hG.blk _ _ h1,h2⟩
 | .ip T b off,y,h=>by
  simp only[Ab] at h ⊢;obtain⟨g,h1,h2⟩:=h;exact⟨g,hG.blk _ _ h1,h2⟩
 | .zn b,y,h=>by simpa[Ab] using h
 | .nil,y,h=>by simpa[Ab] using h
 | .fn f fs cs,y,h=>by
  simp only[Ab] at h ⊢;obtain⟨us,ys,h1,h2,h3⟩:=h;exact⟨us,ys,h1,Ac.mono hG hI fs us h2,Ac.mono hG hI cs ys h3⟩
 | .o v,y,h=>by simpa[Ab] using h
 | .u,y,h=>by simp[Ab]
theorem Ac.mono {G G':Gh} {I I':Ak} (hG:G.le G') (hI:Ak.le I I'):∀(xs:List AV) (ys:List Value),Ac G I xs ys->Ac G' I' xs ys
 | [],ys,h=>by simpa[Ac] using h
 | x::xs,ys,h=>by
  simp only[Ac] at h ⊢;obtain⟨y,ys',h1,h2,h3⟩:=h;exact⟨y,ys',h1,Ab.mono hG hI x y h2,Ac.mono hG hI xs ys' h3⟩
end
theorem Ac.length {G:Gh} {I:Ak}:∀{xs:List AV} {ys:List Value},Ac G I xs ys->xs.length=ys.length
 | [],ys,h=>by simp only[Ac] at h;subst h;rfl
 | x::xs,ys,h=>by
  simp only[Ac] at h;obtain⟨y,ys',rfl,_,h3⟩:=h;simp[Ac.length h3]
theorem Ac.get {G:Gh} {I:Ak}:∀{xs:List AV} {ys:List Value} (j:Nat) {x:AV},Ac G I xs ys->xs[j]? = some x->∃y,ys[j]? = some y/\Ab G I x y
 | [],ys,j,x,h,hx=>by simp at hx
 | z::xs,ys,j,x,h,hx=>by
  simp only[Ac] at h;obtain⟨y,ys',rfl,h2,h3⟩:=h
  cases j with
  | zero=>simp at hx;subst hx;exact⟨y,rfl,h2⟩
  | succ j=>simpa using Ac.get j h3 (by simpa using hx)
theorem Ac.set {G:Gh} {I:Ak}:∀{xs:List AV} {ys:List Value} (j:Nat) {x:AV} {y:Value},Ac G I xs ys->Ab G I x y->Ac G I (xs.set j x) (ys.set j y)
 | [],ys,j,x,y,h,hx=>by simp only[Ac] at h;subst h;simp[Ac]
 | z::xs,ys,j,x,y,h,hx=>by
  simp only[Ac] at h;obtain⟨y',ys',rfl,h2,h3⟩:=h
  cases j with
  | zero=>simp only[List.set_cons_zero,Ac];exact⟨_,_,rfl,hx,h3⟩
  | succ j=>simp only[List.set_cons_succ,Ac];exact⟨_,_,rfl,h2,Ac.set j h3 hx⟩
theorem Ac.append {G:Gh} {I:Ak}:∀{xs:List AV} {ys:List Value} {xs':List AV} {ys':List Value},Ac G I xs ys->Ac G I xs' ys'->Ac G I (xs++xs') (ys++ys')
 | [],ys,xs',ys',h,h'=>by simp only[Ac] at h;subst h;simpa using h'
 | z::xs,ys,xs',ys',h,h'=>by
  simp only[Ac] at h;obtain⟨y,ys1,rfl,h2,h3⟩:=h;simp only[List.cons_append,Ac];exact⟨_,_,rfl,h2,Ac.append h3 h'⟩
theorem Ac.drop {G:Gh} {I:Ak}:∀{xs:List AV} {ys:List Value} (k:Nat),Ac G I xs ys->Ac G I (xs.drop k) (ys.drop k)
 | xs,ys,0,h=>by simpa using h
 | [],ys,k+1,h=>by simp only[Ac] at h;subst h;simp[Ac]
 | z::xs,ys,k+1,h=>by
  simp only[Ac] at h;obtain⟨y,ys1,rfl,h2,h3⟩:=h;simpa using Ac.drop k h3
theorem Ac.take {G:Gh} {I:Ak}:∀{xs:List AV} {ys:List Value} (k:Nat),Ac G I xs ys->Ac G I (xs.take k) (ys.take k)
 | xs,ys,0,h=>by simp[Ac]
 | [],ys,k+1,h=>by simp only[Ac] at h;subst h;simp[Ac]
 | z::xs,ys,k+1,h=>by
  simp only[Ac] at h;obtain⟨y,ys1,rfl,h2,h3⟩:=h;simp only[List.take_succ_cons,Ac];exact⟨_,_,rfl,h2,Ac.take k h3⟩
theorem Ac.cons {G:Gh} {I:Ak} {x:AV} {xs:List AV} {y:Value} {ys:List Value} (h:Ab G I x y) (h':Ac G I xs ys):Ac G I (x::xs) (y::ys):=by
 simp only[Ac];exact⟨_,_,rfl,h,h'⟩
theorem Ac.nil {G:Gh} {I:Ak}:Ac G I [] []:=by simp[Ac]
structure Cx where
 w:World
 own:Nat->Prop
 I:Ak
 gh:Gh
structure In (C:Cx) (G:Gh) (I:Ak) (w:World):Prop where
 os:w.os=C.w.os
 tape:w.tape=C.w.tape
 output:w.output=C.w.output
 size:C.w.heap.size<=w.heap.size
 block:∀k,k<C.w.heap.size->¬C.own k->w.heap[k]? = C.w.heap[k]?
 imm:Ak.le C.I I
 news:∀g o v,I g o v->C.I g o v\/C.own g\/C.w.heap.size<=g
 blk:∀b g,G.own b=some g->C.own g\/C.w.heap.size<=g
 gh:C.gh.le G
def B2:Bool->List UInt8->Value
 | false,l=>.string ⟨l.toArray⟩
 | true,a::b::l=>.agg #[.string ⟨l.toArray⟩,.int .i64 (a.toNat*256+b.toNat:Nat)]
 | true,_=>.agg #[]
def FQ (c:List UInt8):Prop:=∃a b l,c=a::b::l/\l.length<=1000000
def Gq (h:Bool) (G:Gh) (I:Ak) (es:List (List UInt8×AV)) (en:List MapEntry):Prop :=
 en.map (·.key)=es.map (fun e=>B2 h e.1)/\Ac G I (es.map (·.2)) (en.map (·.val))/\(∀u∈en.map (·.val),u.oneCell'=true)/\(h=true->∀e∈es,FQ e.1)
theorem Gq.mono {kh:Bool} {G G':Gh} {I I':Ak} (hG:G.le G') (hI:Ak.le I I') {es:List (List UInt8×AV)} {en:List MapEntry} (h:Gq kh G I es en):Gq kh G' I' es en :=
 ⟨h.1,Ac.mono hG hI _ _ h.2.1,h.2.2⟩
structure MemOk (G:Gh) (I:Ak) (objs:List OB) (w:World):Prop where
 imm:∀g o v,I g o v->w.cell? ⟨g,o,none⟩=some v
 box:∀(b:Nat) T cs,objs[b]? = some (.box T cs)->∃g ys,G.blk b=some g/\w.heap[g]? = some (.cells ys.toArray T (0,0))/\Ac G I cs ys/\∀u∈ys,u.oneCell'=true
 row:∀(b:Nat) E sz gen n xs,objs[b]? = some (.orow E sz gen n xs)->∃v ys,G.cur b=some (gen,v)/\w.ownsRow 0 E sz v n ys/\Ac G I xs ys/\(∀u∈ys,u.oneCell'=true)/\G.blk b=none
 map:∀(b:Nat) h es,objs[b]? = some (.mpk h es)->∃g en ck,G.blk b=some g/\w.heap[g]? = some (.map en ck)/\Gq h G I es en.toList
 inj:∀b b' g,G.own b=some g->G.own b'=some g->b=b'
 lt:∀b g,G.own b=some g->g<w.heap.size
 apart:∀b g o v,G.own b=some g->¬I g o v
 fresh:∀b,objs.length<=b->G.blk b=none/\G.cur b=none
def C1 (C:Cx) (objs:List OB) (tm:List AV) (a:Act) (w:World):Prop :=
 ∃G I,In C G I w/\MemOk G I objs w/\Ac G I tm a.tmps.toList/\a.defers=[]
abbrev Bb:=Exit->List OB->List AV->Prop
def C9 (C:Cx) (K:Bb) (e:Exit) (a:Act) (w:World):Prop:=∃objs tm,K e objs tm/\C1 C objs tm a w
def WP (P:Program) (C:Cx) (c:Code) (K:Bb) (objs:List OB) (tm:List AV):Prop :=
 ∀a w,C1 C objs tm a w->c.wp P (C9 C K) a w
theorem cL {P:Program} {Q:Exit->Act->World->Prop} {c:Code} (I:Nat->Act->World->Prop)
  (round:∀n a w,I n a w->c.wp P (Exit.then (fun a' w'=>∃m,m<n/\I m a' w') Q) a w):∀n a w,I n a w->(Code.loop c).wp P Q a w:=by
 intro n a w h₀ b k cs;have key:∀n a w,I n a w->∃e a' w',Q e a' w'/\Arrives P (lone (b.at a (.code c::.inLoop c::k)) cs w) b k cs e a' w':=by
  intro n
  induction n using Nat.strongRecOn with
  | _ n ih=>
   intro a w hI;obtain⟨e,a₁,w₁,hq,harr⟩:=round n a w hI b (.inLoop c::k) cs
   cases e with
   | normal=>
    obtain⟨m,hlt,hI₁⟩:=hq;obtain⟨e₂,a₂,w₂,hq₂,harr₂⟩:=ih m hlt a₁ w₁ hI₁;exact⟨e₂,a₂,w₂,hq₂,.of_steps (Steps.trans harr (.one step_inLoop)) harr₂⟩
   | exit id=>exact⟨_,a₁,w₁,hq,.pass (x:=.inLoop c) rfl (fun _ _=>.inl (by simp)) harr⟩
   | goto l=>exact⟨_,a₁,w₁,hq,.pass (x:=.inLoop c) rfl (fun _ _=>.inl (by simp)) harr⟩
   | ret=>exact⟨_,a₁,w₁,hq,.pass (x:=.inLoop c) rfl (fun _ _=>.inl (by simp)) harr⟩
   | panic ch=>exact⟨_,a₁,w₁,hq,.pass (x:=.inLoop c) rfl (fun _ _=>.inl (by simp)) harr⟩
   | outgrown=>exact⟨_,a₁,w₁,hq,.pass (x:=.inLoop c) rfl (fun _ _=>.inl (by simp)) harr⟩
 obtain⟨e,a',w',hq,harr⟩:=key n a w h₀;exact⟨e,a',w',hq,.of_steps (.one step_loop) harr⟩
section
variable {P:Program} {C:Cx} {K:Bb} {objs:List OB} {tm:List AV}
theorem WP.mono {c:Code} {K K':Bb} (h:∀e objs tm,K e objs tm->K' e objs tm) (hh:WP P C c K objs tm):WP P C c K' objs tm :=
 fun a w hr=>wp_mono (hh a w hr) fun e a w ⟨o,t,hk,hr⟩=>⟨o,t,h _ _ _ hk,hr⟩
theorem WP.skip (h:K .normal objs tm):WP P C .skip K objs tm:=fun a w hr=>wp_skip ⟨_,_,h,hr⟩
theorem WP.ret (h:K .ret objs tm):WP P C .ret K objs tm:=fun a w hr=>wp_ret ⟨_,_,h,hr⟩
theorem WP.exit {id:Nat} (h:K (.exit id) objs tm):WP P C (.exit id) K objs tm:=fun a w hr=>wp_exit ⟨_,_,h,hr⟩
def D9 (N:List OB->List AV->Prop) (K:Bb):Bb
 | .normal,objs,tm=>N objs tm
 | e,objs,tm=>K e objs tm
theorem WP.seq {x y:Code} (h:WP P C x (D9 (WP P C y K) K) objs tm):WP P C (.seq x y) K objs tm:=by
 intro a w hr;refine wp_seq (wp_mono (h a w hr) ?_);rintro e a w ⟨o,t,hk,hr⟩
 cases e with
 | normal=>exact hk a w hr
 | _=>exact⟨o,t,hk,hr⟩
def Gs (id:Nat) (K:Bb):Bb
 | .exit id',objs,tm=>if id'=id then K .normal objs tm else K (.exit id') objs tm
 | e,objs,tm=>K e objs tm
theorem WP.block {id:Nat} {c:Code} (h:WP P C c (Gs id K) objs tm):WP P C (.block id c) K objs tm:=by
 intro a w hr;refine wp_block (wp_mono (h a w hr) ?_);rintro e a w ⟨o,t,hk,hr⟩
 cases e with
 | exit id'=>
  simp only[Exit.inBlock,Gs] at hk ⊢
  split at hk
  ·rename_i hid;rw[if_pos hid];exact⟨o,t,hk,hr⟩
  ·rename_i hid;rw[if_neg hid];exact⟨o,t,hk,hr⟩
 | _=>exact⟨o,t,hk,hr⟩
theorem WP.loop {c:Code} (J:Nat->List OB->List AV->Prop) (n:Nat) (h0:J n objs tm)
  (round:∀n objs tm,J n objs tm->WP P C c (D9 (fun o t=>∃m,m<n/\J m o t) K) objs tm):WP P C (.loop c) K objs tm:=by
 intro a w hr;refine cL (fun n a w=>∃o t,J n o t/\C1 C o t a w) ?_ n a w ⟨objs,tm,h0,hr⟩;rintro n a w ⟨o,t,hj,hr⟩;refine wp_mono (round n o t hj a w hr) ?_;rintro e a w ⟨o,t,hk,hr⟩
 cases e with
 | normal=>
  obtain⟨m,hm,hj⟩:=hk;exact⟨m,hm,o,t,hj,hr⟩
 | _=>exact⟨o,t,hk,hr⟩
def I7:Value->AV
 | .string s=>.s s.data.toList
 | .int k n=>.i k n
 | .bool x=>.b x
 | .slice none 0 0=>.nil
 | v=>.o v
def DD:Value->AV
 | .agg vs=>if vs.toList.all (·.oneCell')=true then .agg (vs.toList.map I7) else .o (.agg vs)
 | v=>I7 v
theorem RR (G:Gh) (I:Ak) (v:Value):Ab G I (I7 v) v:=by
 unfold I7
 split
 ·simp[Ab]
 ·simp[Ab]
 ·simp[Ab]
 ·simp[Ab]
 ·simp[Ab]
theorem S5 (G:Gh) (I:Ak):∀l:List Value,Ac G I (l.map I7) l
 | []=>by simp[Ac]
 | v::l=>by
  rw[zr];simp only[Ac];exact⟨v,l,rfl,RR G I v,S5 G I l⟩
theorem Iu (G:Gh) (I:Ak) (v:Value):Ab G I (DD v) v:=by
 unfold DD
 split
 ·rename_i vs
  split
  ·rename_i h;simp only[Ab];exact⟨vs.toList,by simp,S5 G I _,fun u hu=>zj.1 h u hu⟩
  ·simp[Ab]
 ·exact RR G I _
inductive SV where
 | t (n:Nat)
 | c (v:AV)
def Ad:Operand->SV
 | .tmp t=>.t t
 | .const v=>.c (DD v)
 | .global g=>.c (.o (.pointer (some ⟨g,0,none⟩)))
 | .func f=>.c (.fn f [] [])
def SV.ev (tm:List AV):SV->AV
 | .t n=>(tm[n]?).getD .u
 | .c v=>v
theorem Aq {G:Gh} {I:Ak} {a:Act} (h:Ac G I tm a.tmps.toList) (x:Operand):Ab G I ((Ad x).ev tm) (a.eval x):=by
 cases x with
 | tmp t=>
  simp only[Ad,SV.ev,Act.eval]
  cases ht:tm[t]? with
  | none=>simp[Ab]
  | some v=>
   obtain⟨y,h1,h2⟩:=Ac.get t h ht;simp only[Option.getD_some,Array.getD_eq_getD_getElem?];rw[Array.getElem?_toList] at h1;rw[h1];exact h2
 | const v=>exact Iu _ _ _
 | global g=>simp[Ad,SV.ev,Act.eval,Ab]
 | func f=>simp only[Ad,SV.ev,Act.eval,Ab];exact⟨[],[],rfl,by simp[Ac],by simp[Ac]⟩
theorem WP.cond {c:Operand} {x y:Code} {t:Bool} (hc:(Ad c).ev tm=.b t) (ht:t=true->WP P C x K objs tm) (hf:t=false->WP P C y K objs tm):WP P C (.cond c x y) K objs tm:=by
 intro a w hr;have hr':=hr;obtain⟨G,I,_,_,hd,_⟩:=hr';have h1:=Aq hd c;rw[hc] at h1;simp only[Ab] at h1;exact wp_cond_split h1 (fun h=>ht h a w hr) (fun h=>hf h a w hr)
end
def AV.one:AV->Bool
 | .agg _ | .tup _ | .u=>false
 | .o v=>v.oneCell'
 | _=>true
def AV.cells:AV->List AV
 | .agg cs=>cs
 | v=>[v]
def AV.flat:AV->Bool
 | .agg _=>true
 | v=>v.one
theorem ME {G:Gh} {I:Ak} {x:AV} {y:Value} (h:Ab G I x y) (h1:x.one=true):y.oneCell'=true:=by
 cases x with
 | s l=>simp only[Ab] at h;subst h;rfl
 | i k n=>simp only[Ab] at h;subst h;rfl
 | b x=>simp only[Ab] at h;subst h;rfl
 | agg cs=>simp[AV.one] at h1
 | tup cs=>simp[AV.one] at h1
 | p b off=>simp only[Ab] at h;obtain⟨_,_,rfl⟩:=h;rfl
 | row n xs=>simp only[Ab] at h;obtain⟨_,_,_,rfl,_⟩:=h;rfl
 | prow xs j=>simp only[Ab] at h;obtain⟨_,_,_,rfl,_⟩:=h;rfl
 | crow n xs=>simp only[Ab] at h;obtain⟨_,_,rfl,_⟩:=h;rfl
 | orow b gen=>simp only[Ab] at h;obtain⟨_,_,_,_,_,h⟩:=h;exact h
 | porow b gen j=>simp only[Ab] at h;obtain⟨_,_,_,_,_,rfl,_⟩:=h;rfl
 | bsl b off n=>simp only[Ab] at h;obtain⟨_,_,_,rfl,_⟩:=h;rfl
 | m b=>simp only[Ab] at h;obtain⟨_,_,rfl⟩:=h;rfl
 | ip T b off=>simp only[Ab] at h;obtain⟨_,_,rfl⟩:=h;rfl
 | zn b=>simp only[Ab] at h;obtain⟨_,_,rfl,_⟩:=h;rfl
 | nil=>simp only[Ab] at h;subst h;rfl
 | fn f fs cs=>simp only[Ab] at h;obtain⟨_,_,rfl,_⟩:=h;rfl
 | o v=>simp only[Ab] at h;subst h;exact h1
 | u=>simp[AV.one] at h1
theorem Ll {G:Gh} {I:Ak} {x:AV} {y:Value} (h:Ab G I x y) (h1:x.flat=true):Ac G I x.cells y.cells.toList/\∀u∈y.cells.toList,u.oneCell'=true:=by
 cases x with
 | agg cs=>
  simp only[Ab] at h;obtain⟨ys,rfl,h2,h3⟩:=h;exact⟨h2,h3⟩
 | _=>
  have ho:=ME h h1;have hc:y.cells=#[y]:=by cases y<;>first|rfl|(simp[Value.oneCell'] at ho)
  rw[hc];exact⟨Ac.cons h Ac.nil,by simpa using ho⟩
def AA (P:Program) (C:Cx) (o:Op) (type:TypeId) (objs:List OB) (tm:List AV) (K:List OB->AV->Prop):Prop :=
 ∀G I a w,In C G I w->MemOk G I objs w->Ac G I tm a.tmps.toList->∀(op:Oper) (next:Act->World->Prop) (Q:Exit->Act->World->Prop),op.op=o->op.type=type ->
  (∀objs' v y G' I' w',K objs' v->G.le G'->Ak.le I I'->In C G' I' w'->MemOk G' I' objs' w'->Ab G' I' v y->next (a.put op.dst y) w')->op.wp P a w next Q
theorem Ak.le.refl (I:Ak):Ak.le I I:=fun _ _ _ h=>h
theorem CK {P:Program} {op:Oper} {a:Act} {w w':World} {next:Act->World->Prop} {Q:Exit->Act->World->Prop} {y:Value}
  (h:(execOp a.eval op).run P w=.ok (.value y) w') (hn:next (a.put op.dst y) w'):op.wp P a w next Q:=by
 unfold Oper.wp;rw[h];exact hn
theorem K9 {P:Program} {op:Oper} {a:Act} {w w':World} {next:Act->World->Prop} {Q:Exit->Act->World->Prop}
  (h:(execOp a.eval op).run P w=.ok .skip w') (hn:next (a.put op.dst undef) w'):op.wp P a w next Q:=by
 unfold Oper.wp;rw[h];exact hn
theorem A9 {P:Program} {C:Cx} {o:Op} {type:TypeId} {objs:List OB} {tm:List AV} {K:List OB->AV->Prop} (v:AV) (hk:K objs v)
  (h:∀(G:Gh) (I:Ak) (a:Act) (w:World),MemOk G I objs w->Ac G I tm a.tmps.toList->∀op:Oper,op.op=o->op.type=type->∃y,(execOp a.eval op).run P w=.ok (.value y) w/\Ab G I v y):AA P C o type objs tm K:=by
 intro G I a w hin hm hd op next Q ho ht hn;obtain⟨y,hr,hy⟩:=h G I a w hm hd op ho ht;exact CK hr (hn objs v y G I w hk (Gh.le.refl G) (Ak.le.refl I) hin hm hy)
def Gh.box (G:Gh) (b g:Nat):Gh:=⟨fun x=>if x=b then some g else G.blk x,G.cur⟩
def Gh.row (G:Gh) (b n:Nat) (v:Value):Gh:=⟨G.blk,fun x=>if x=b then some (n,v) else G.cur x⟩
theorem Gh.box_own (G:Gh) (b g x:Nat):(G.box b g).own x=if x=b then some g else G.own x:=by
 by_cases h:x=b
 ·simp[Gh.own,Gh.box,h]
 ·simp only[Gh.own,Gh.box,h,if_false]
theorem Gh.row_own (G:Gh) (b n:Nat) (v:Value) (hb:G.blk b=none) (x:Nat):(G.row b n v).own x=if x=b then v.ownBlock else G.own x:=by
 by_cases h:x=b
 ·subst h;simp[Gh.own,Gh.row,hb]
 ·simp only[Gh.own,Gh.row,h,if_false]
theorem In.alloc {C:Cx} {G:Gh} {I:Ak} {w:World} (h:In C G I w) (o:Obj):In C G I (w.alloc o) :=
 ⟨h.os,h.tape,h.output,by simp;have:=h.size;omega,fun k hk hn=>(Below.heap_alloc w o k (xu hk h.size)).trans (h.block k hk hn),h.imm,h.news,h.blk,h.gh⟩
theorem MemOk.alloc {G:Gh} {I:Ak} {objs:List OB} {w:World} (h:MemOk G I objs w) (o:Obj):MemOk G I objs (w.alloc o):=by
 refine⟨fun g o' v hi=>?_,fun b T cs hb=>?_,fun b E sz gen n xs hb=>?_,fun b hh es hb=>?_,h.inj,fun b g hb=>by simp;have:=h.lt b g hb;omega,h.apart,h.fresh⟩
 ·have h1:=h.imm g o' v hi;rw[World.cell?_alloc_lt (h:=World.block_lt_of_cell? (h:=h1))];exact h1
 ·obtain⟨g,ys,h1,h2,h3,h4⟩:=h.box b T cs hb;exact⟨g,ys,h1,(Below.heap_alloc w o g (h.lt b g (Co h1))).trans h2,h3,h4⟩
 ·obtain⟨v,ys,h1,h2,h3⟩:=h.row b E sz gen n xs hb;exact⟨v,ys,h1,World.ownsRow.alloc h2 o,h3⟩
 ·obtain⟨g,en,ck,h1,h2,h3⟩:=h.map b hh es hb;exact⟨g,en,ck,h1,(Below.heap_alloc w o g (h.lt b g (Co h1))).trans h2,h3⟩
theorem In.ghost {C:Cx} {G G':Gh} {I:Ak} {w:World} (h:In C G I w) (hle:G.le G') (hb:∀b g,G'.own b=some g->C.own g\/C.w.heap.size<=g):In C G' I w :=
 ⟨h.os,h.tape,h.output,h.size,h.block,h.imm,h.news,hb,h.gh.trans hle⟩
theorem Gh.box_le {G:Gh} {b g:Nat} (h:G.blk b=none):G.le (G.box b g):=by
 refine⟨fun x y hx=>?_,fun x n v hx=>⟨n,v,hx,.inl ⟨rfl,rfl⟩⟩⟩;show (if x=b then _ else _)=_;rw[if_neg (by rintro rfl;rw[h] at hx;cases hx)];exact hx
theorem Gh.row_le {G:Gh} {b n:Nat} {v:Value} (h:∀m u,G.cur b=some (m,u)->m<n):G.le (G.row b n v):=by
 refine⟨fun x y hx=>hx,fun x m u hx=>?_⟩
 by_cases e:x=b
 ·subst e;exact⟨n,v,by simp[Gh.row],.inr (h m u hx)⟩
 ·exact⟨m,u,by show (if x=b then _ else _)=_;rw[if_neg e];exact hx,.inl ⟨rfl,rfl⟩⟩
theorem Pr {C:Cx} {G:Gh} {I:Ak} {objs:List OB} {w:World} (hin:In C G I w) (h:MemOk G I objs w) (T:TypeId) (cs:List AV) (ys:Array Value) (hd:Ac G I cs ys.toList) (h1:∀u∈ys.toList,u.oneCell'=true) :
  ∃G',G.le G'/\In C G' I (w.alloc (.cells ys T))/\MemOk G' I (objs++[.box T cs]) (w.alloc (.cells ys T))/\Ab G' I (.p objs.length 0) (.pointer (some ⟨w.heap.size,0,none⟩)):=by
 have hf:=h.fresh objs.length (zd _);have hle:G.le (G.box objs.length w.heap.size):=Gh.box_le hf.1;have ha:=h.alloc (.cells ys T);have hbl:∀x y,(G.box objs.length w.heap.size).own x=some y->(x=objs.length/\y=w.heap.size)\/(x≠objs.length/\G.own x=some y):=by
  intro x y hx;rw[Gh.box_own] at hx
  split at hx
  ·rename_i e;injection hx with hx;exact .inl ⟨e,hx.symm⟩
  ·rename_i e;exact .inr ⟨e,hx⟩
 refine⟨_,hle,(hin.alloc _).ghost hle ?_,⟨ha.imm,?_,?_,?_,?_,?_,?_,?_⟩,?_⟩
 ·intro b g hb;rcases hbl b g hb with ⟨rfl,rfl⟩|⟨_,hb⟩
  ·exact .inr hin.size
  ·exact hin.blk b g hb
 ·intro b T' cs' hb;rcases zo b objs.length with hlt|hge
  ·rw[qr hlt] at hb;obtain⟨g,zs,k1,k2,k3,k4⟩:=ha.box b T' cs' hb;exact⟨g,zs,hle.blk b g k1,k2,Ac.mono hle (Ak.le.refl I) _ _ k3,k4⟩
  ·rw[jy hge] at hb;have hb0:b=objs.length:=by
    rcases jm (b - objs.length) with h0|h0
    ·omega
    ·rw[qg (by simp;omega)] at hb;cases hb
   subst hb0;simp at hb;obtain⟨rfl,rfl⟩:=hb;exact⟨w.heap.size,ys.toList,by simp[Gh.box],by simpa using heap_alloc_new w (.cells ys T),Ac.mono hle (Ak.le.refl I) _ _ hd,h1⟩
 ·intro b E sz gen n xs hb;rcases zo b objs.length with hlt|hge
  ·rw[qr hlt] at hb;obtain⟨v,zs,k1,k2,k3,k4,k5⟩:=ha.row b E sz gen n xs hb;refine⟨v,zs,k1,k2,Ac.mono hle (Ak.le.refl I) _ _ k3,k4,?_⟩;show (if b=objs.length then _ else _)=_;rw[if_neg (by omega)];exact k5
  ·rw[jy hge] at hb;rcases jm (b - objs.length) with h0|h0
   ·rw[h0] at hb;simp at hb
   ·rw[qg (by simp;omega)] at hb;cases hb
 ·intro b hh es hb;rcases zo b objs.length with hlt|hge
  ·rw[qr hlt] at hb;obtain⟨g,en,ck,k1,k2,k3⟩:=ha.map b hh es hb;exact⟨g,en,ck,hle.blk b g k1,k2,k3.mono hle (Ak.le.refl I)⟩
  ·rw[jy hge] at hb;rcases jm (b - objs.length) with h0|h0
   ·rw[h0] at hb;simp at hb
   ·rw[qg (by simp;omega)] at hb;cases hb
 ·intro b b' g hb hb';rcases hbl b g hb with ⟨rfl,rfl⟩|⟨_,hb⟩<;>rcases hbl b' _ hb' with ⟨rfl,e⟩|⟨_,hb'⟩
  ·rfl
  ·have:=h.lt b' _ hb';omega
  ·have:=h.lt b _ hb;omega
  ·exact h.inj b b' g hb hb'
 ·intro b g hb;rcases hbl b g hb with ⟨rfl,rfl⟩|⟨_,hb⟩
  ·simp
  ·exact ha.lt b g hb
 ·intro b g o v hb hi;rcases hbl b g hb with ⟨rfl,rfl⟩|⟨_,hb⟩
  ·have:=World.block_lt_of_cell? (h:=h.imm _ _ _ hi);simp at this
  ·exact h.apart b g o v hb hi
 ·intro b hb;simp at hb;have:=h.fresh b (by omega);refine⟨?_,this.2⟩;show (if b=objs.length then _ else _)=_;rw[if_neg (by omega)];exact this.1
 ·simp only[Ab];exact⟨w.heap.size,by simp[Gh.box],rfl⟩
theorem Ps {C:Cx} {G:Gh} {I:Ak} {objs:List OB} {w:World} (hin:In C G I w) (h:MemOk G I objs w) (E:TypeId) (xs:List AV) (ys:Array Value) (n:Nat) (hd:Ac G I xs ys.toList) (h1:∀u∈ys.toList,u.oneCell'=true) :
  ∃I',Ak.le I I'/\In C G I' (w.alloc (.cells ys E))/\MemOk G I' objs (w.alloc (.cells ys E))/\Ab G I' (.row n xs) (.slice (some ⟨w.heap.size,0,none⟩) n n):=by
 have ha:=h.alloc (.cells ys E);have hia:=hin.alloc (.cells ys E)
 let I':Ak:=fun g o v=>I g o v\/(g=w.heap.size/\ys.toList[o]? = some v)
 have hle:Ak.le I I':=fun _ _ _ hi=>.inl hi;refine⟨I',hle,⟨hia.os,hia.tape,hia.output,hia.size,hia.block,fun g o v hi=>.inl (hin.imm g o v hi),?_,hia.blk,hia.gh⟩,⟨?_,?_,?_,?_,ha.inj,ha.lt,?_,ha.fresh⟩,?_⟩
 ·rintro g o v (hi|⟨rfl,_⟩)
  ·exact hin.news g o v hi
  ·exact .inr (.inr hin.size)
 ·rintro g o v (hi|⟨rfl,hy⟩)
  ·exact ha.imm g o v hi
  ·rw[World.cell?_alloc_new];simpa using hy
 ·intro b T cs hb;obtain⟨g,zs,k1,k2,k3,k4⟩:=ha.box b T cs hb;exact⟨g,zs,k1,k2,Ac.mono (Gh.le.refl G) hle _ _ k3,k4⟩
 ·intro b E' sz gen m us hb;obtain⟨v,zs,k1,k2,k3,k4,k5⟩:=ha.row b E' sz gen m us hb;exact⟨v,zs,k1,k2,Ac.mono (Gh.le.refl G) hle _ _ k3,k4,k5⟩
 ·intro b hh es hb;obtain⟨g,en,ck,k1,k2,k3⟩:=ha.map b hh es hb;exact⟨g,en,ck,k1,k2,k3.mono (Gh.le.refl G) hle⟩
 ·rintro b g o v hb (hi|⟨rfl,_⟩)
  ·exact h.apart b g o v hb hi
  ·have:=h.lt b _ hb;omega
 ·simp only[Ab];refine⟨some ⟨w.heap.size,0,none⟩,n,ys.toList,rfl,⟨zd _,by rintro _ ⟨⟩ _;rfl⟩,Ac.mono (Gh.le.refl G) hle _ _ hd,h1,fun j u hj=>⟨w.heap.size,0,rfl,.inr ⟨rfl,by simpa using hj⟩⟩⟩
theorem Gk (b:Nat) (T:TypeId):∀(vs:List Value) (o:Nat) (w:World) (cur:List Value),w.heap[b]? = some (.cells cur.toArray T (0,0))->o+vs.length<=cur.length ->
  (w.setCells b o vs).heap[b]? = some (.cells (cur.take o++vs++cur.drop (o+vs.length)).toArray T (0,0))/\(∀k,k≠b->(w.setCells b o vs).heap[k]? = w.heap[k]?)/\(w.setCells b o vs).heap.size=w.heap.size/\(w.setCells b o vs).os=w.os/\(w.setCells b o vs).tape=w.tape/\(w.setCells b o vs).output=w.output
 | [],o,w,cur,h,hl=>by simpa[World.setCells] using h
 | v::r,o,w,cur,h,hl=>by
  have hs:(w.setCell ⟨b,o,none⟩ v).heap[b]? = some (.cells (cur.set o v).toArray T (0,0)):=by
   simp[World.setCell,Array.getElem?_modify,h]
  simp only[zl] at hl;obtain⟨h1,h2,h3,h4,h5,h6⟩:=Gk b T r (o+1) (w.setCell ⟨b,o,none⟩ v) (cur.set o v) hs (by simp;omega);rw[World.setCells];refine⟨?_,fun k hk=>?_,?_,h4,h5,h6⟩
  ·rw[h1]
   congr 3
   have e1:(cur.set o v).take (o+1)=cur.take o++[v]:=by
    rw[qm (by simp;omega),List.getElem_set_self,List.take_set_of_le (zd _)]
   have e2:(cur.set o v).drop (o+1+r.length)=cur.drop (o+(v::r).length):=by
    rw[List.drop_set_of_lt (by omega),zl,show o+1+r.length=o+(r.length+1) by omega]
   rw[e1,e2];simp
  ·rw[h2 k hk];exact Below.heap_setCell w _ v k hk
  ·rw[h3];simp[World.setCell]
def Cv {α:Type} (cs:List α) (o:Nat) (vs:List α):List α:=cs.take o++vs++cs.drop (o+vs.length)
theorem PI {C:Cx} {G:Gh} {I:Ak} {objs:List OB} {w:World} (hin:In C G I w) (h:MemOk G I objs w) (b g o:Nat) (T:TypeId) (cs vs:List AV) (us:List Value) (hb:objs[b]? = some (.box T cs)) (hg:G.blk b=some g)
  (hd:Ac G I vs us) (h1:∀u∈us,u.oneCell'=true) (hl:o+vs.length<=cs.length) :
  In C G I (w.setCells g o us)/\MemOk G I (objs.set b (.box T (Cv cs o vs))) (w.setCells g o us):=by
 obtain⟨g',ys,k1,k2,k3,k4⟩:=h.box b T cs hb;obtain rfl:g=g':=zx.inj (hg.symm.trans k1);have hl1:=k3.length;have hl2:=hd.length;obtain⟨s1,s2,s3,s4,s5,s6⟩:=Gk g T us o w ys k2 (by omega);have hblt:b<objs.length:=by
  rcases zo b objs.length with h0|h0
  ·exact h0
  ·rw[qg h0] at hb;cases hb
 refine⟨⟨s4.trans hin.os,s5.trans hin.tape,s6.trans hin.output,by rw[s3];exact hin.size,fun k hk hn=>?_,hin.imm,hin.news,hin.blk,hin.gh⟩,⟨?_,?_,?_,?_,h.inj,fun b' g' hb'=>by rw[s3];exact h.lt b' g' hb',h.apart,?_⟩⟩
 ·rcases hin.blk b g (Co hg) with ho|ho
  ·rw[s2 k (by rintro rfl;exact hn ho)];exact hin.block k hk hn
  ·rw[s2 k (by omega)];exact hin.block k hk hn
 ·intro g' o' v hi;rw[<-h.imm g' o' v hi];simp only[World.cell?];rw[s2 g' (by rintro rfl;exact h.apart b _ o' v (Co hg) hi)]
 ·intro b' T' cs' hb'
  by_cases e:b'=b
  ·subst e;rw[qd hblt] at hb';obtain⟨rfl,rfl⟩:T=T'/\Cv cs o vs=cs':=by simpa using hb'
   refine⟨g,_,k1,s1,?_,?_⟩
   ·unfold Cv;rw[hl2];exact Ac.append (Ac.append (Ac.take o k3) hd) (Ac.drop _ k3)
   ·intro u hu;rcases zw.1 hu with hu|hu
    ·rcases zw.1 hu with hu|hu
     ·exact k4 u (jo hu)
     ·exact h1 u hu
    ·exact k4 u (ji hu)
  ·rw[zp (fun e'=>e e'.symm)] at hb';obtain⟨g2,zs,m1,m2,m3,m4⟩:=h.box b' T' cs' hb';exact⟨g2,zs,m1,(s2 g2 (by rintro rfl;exact e (h.inj _ _ _ (Co m1) (Co hg)))).trans m2,m3,m4⟩
 ·intro b' E sz gen n xs hb'
  by_cases e:b'=b
  ·subst e;rw[qd hblt] at hb';simp at hb'
  ·rw[zp (fun e'=>e e'.symm)] at hb';obtain⟨v,zs,m1,m2,m3,m4,m5⟩:=h.row b' E sz gen n xs hb';refine⟨v,zs,m1,?_,m3,m4,m5⟩;obtain⟨q1,q2⟩:=m2;refine⟨q1,?_⟩;rcases q2 with q2|⟨g3,cap,cur,rfl,q3,q4,q5⟩
   ·exact .inl q2
   ·refine .inr ⟨g3,cap,cur,rfl,q3,(s2 g3 ?_).trans q4,q5⟩;rintro rfl;refine e (h.inj _ _ _ ?_ (Co hg));rw[FL m5 m1];rfl
 ·intro b' hh es hb'
  by_cases e:b'=b
  ·subst e;rw[qd hblt] at hb';simp at hb'
  ·rw[zp (fun e'=>e e'.symm)] at hb';obtain⟨g2,en,ck,m1,m2,m3⟩:=h.map b' hh es hb';exact⟨g2,en,ck,m1,(s2 g2 (by rintro rfl;exact e (h.inj _ _ _ (Co m1) (Co hg)))).trans m2,m3⟩
 ·intro b' hb';rw[zf] at hb';exact h.fresh b' hb'
theorem PK {C:Cx} {G:Gh} {I:Ak} {objs:List OB} {w:World} (hin:In C G I w) (h:MemOk G I objs w) (b g o:Nat) (E sz gen n cap:Nat) (xs vs:List AV) (us:List Value) (hb:objs[b]? = some (.orow E sz gen n xs)) (hg:G.cur b=some (gen,.slice (some ⟨g,0,none⟩) n cap))
  (hd:Ac G I vs us) (h1:∀u∈us,u.oneCell'=true) (hl:o+vs.length<=xs.length) :
  In C G I (w.setCells g o us)/\MemOk G I (objs.set b (.orow E sz gen n (Cv xs o vs))) (w.setCells g o us):=by
 obtain⟨v,ys,k1,k2,k3,k4,k5⟩:=h.row b E sz gen n xs hb;obtain rfl:v=.slice (some ⟨g,0,none⟩) n cap:=by rw[hg] at k1;injection k1 with k1;injection k1 with _ k1;exact k1.symm
 have hown:G.own b=some g:=by rw[FL k5 hg];rfl
 have hl1:=k3.length;have hl2:=hd.length;obtain⟨q1,q2⟩:=k2;rcases q2 with ⟨q2,_⟩|⟨g',cap',cur,q2,q3,q4,q5,q6,q7,q8⟩
 ·cases q2
 injection q2 with q2 _ q9;injection q2 with q2;injection q2 with q2;subst q2 q9
 have hcl:n*sz<=cur.size:=by rw[q7];exact jb _ q5
 have q4':w.heap[g]? = some (.cells cur.toList.toArray E (0,0)):=by simpa using q4
 have hcl':cur.toList.length=cur.size:=by simp
 obtain⟨s1,s2,s3,s4,s5,s6⟩:=Gk g E us o w cur.toList q4' (by omega);have hblt:b<objs.length:=by
  rcases zo b objs.length with h0|h0
  ·exact h0
  ·rw[qg h0] at hb;cases hb
 refine⟨⟨s4.trans hin.os,s5.trans hin.tape,s6.trans hin.output,by rw[s3];exact hin.size,fun k hk hn=>?_,hin.imm,hin.news,hin.blk,hin.gh⟩,⟨?_,?_,?_,?_,h.inj,fun b' g' hb'=>by rw[s3];exact h.lt b' g' hb',h.apart,?_⟩⟩
 ·rcases hin.blk b g hown with ho|ho
  ·rw[s2 k (by rintro rfl;exact hn ho)];exact hin.block k hk hn
  ·rw[s2 k (by omega)];exact hin.block k hk hn
 ·intro g' o' v hi;rw[<-h.imm g' o' v hi];simp only[World.cell?];rw[s2 g' (by rintro rfl;exact h.apart b _ o' v hown hi)]
 ·intro b' T' cs' hb';have e:b'≠b:=by
   rintro rfl;rw[qd hblt] at hb';simp at hb'
  rw[zp (fun e'=>e e'.symm)] at hb';obtain⟨g2,zs,m1,m2,m3,m4⟩:=h.box b' T' cs' hb';exact⟨g2,zs,m1,(s2 g2 (by rintro rfl;exact e (h.inj _ _ _ (Co m1) hown))).trans m2,m3,m4⟩
 ·intro b' E' sz' gen' n' xs' hb'
  by_cases e:b'=b
  ·subst e;rw[qd hblt] at hb';simp only[zx.injEq,OB.orow.injEq] at hb';obtain⟨rfl,rfl,rfl,rfl,rfl⟩:=hb';have hsp:(Cv ys o us).length=ys.length:=by
    unfold Cv;simp only[zg,zh,zt];omega
   refine⟨_,Cv ys o us,hg,⟨by rw[hsp];exact q1,.inr ⟨g,cap,_,rfl,q3,s1,q5,q6,?_,?_⟩⟩,?_,?_,k5⟩
   ·rw[<-q7];simp only[xo,zg,zh,zt];omega
   ·rw[List.toList_toArray];unfold Cv;have e1:cur.toList.take o=ys.take o:=by rw[<-q8,xp,xq (by omega)]
    have e2:ys.drop (o+us.length)=(cur.toList.drop (o+us.length)).take (n*sz - (o+us.length)):=by rw[<-q8,List.drop_take]
    rw[List.take_append,zg,zh,e2,e1];rw[je (by simp only[zg,zh];omega)];rw[show n*sz - (min o cur.toList.length+us.length)=n*sz - (o+us.length) by omega]
   ·unfold Cv;rw[hl2];exact Ac.append (Ac.append (Ac.take o k3) hd) (Ac.drop _ k3)
   ·intro u hu;unfold Cv at hu;rcases zw.1 hu with hu|hu
    ·rcases zw.1 hu with hu|hu
     ·exact k4 u (jo hu)
     ·exact h1 u hu
    ·exact k4 u (ji hu)
  ·rw[zp (fun e'=>e e'.symm)] at hb';obtain⟨v,zs,m1,m2,m3,m4,m5⟩:=h.row b' E' sz' gen' n' xs' hb';refine⟨v,zs,m1,?_,m3,m4,m5⟩;obtain⟨q1',q2'⟩:=m2;refine⟨q1',?_⟩;rcases q2' with q2' | ⟨g3,cap',cur',rfl,q3',q4'',q5'⟩
   ·exact .inl q2'
   ·refine .inr ⟨g3,cap',cur',rfl,q3',(s2 g3 ?_).trans q4'',q5'⟩;rintro rfl;refine e (h.inj _ _ _ ?_ hown);rw[FL m5 m1];rfl
 ·intro b' hh es hb';have e:b'≠b:=by
   rintro rfl;rw[qd hblt] at hb';simp at hb'
  rw[zp (fun e'=>e e'.symm)] at hb';obtain⟨g2,en,ck,m1,m2,m3⟩:=h.map b' hh es hb';exact⟨g2,en,ck,m1,(s2 g2 (by rintro rfl;exact e (h.inj _ _ _ (Co m1) hown))).trans m2,m3⟩
 ·intro b' hb';rw[zf] at hb';exact h.fresh b' hb'
theorem Mu {C:Cx} {G:Gh} {I:Ak} {objs:List OB} {w:World} (kh:Bool) (hin:In C G I w) (h:MemOk G I objs w) :
  ∃G',G.le G'/\In C G' I (w.alloc (.map #[] 0))/\MemOk G' I (objs++[.mpk kh []]) (w.alloc (.map #[] 0))/\Ab G' I (.m objs.length) (.map (some w.heap.size)):=by
 have hf:=h.fresh objs.length (zd _);have hle:G.le (G.box objs.length w.heap.size):=Gh.box_le hf.1;have ha:=h.alloc (.map #[] 0);have hbl:∀x y,(G.box objs.length w.heap.size).own x=some y->(x=objs.length/\y=w.heap.size)\/(x≠objs.length/\G.own x=some y):=by
  intro x y hx;rw[Gh.box_own] at hx
  split at hx
  ·rename_i e;injection hx with hx;exact .inl ⟨e,hx.symm⟩
  ·rename_i e;exact .inr ⟨e,hx⟩
 have hold:∀(b:Nat) (ob:OB),(objs++[OB.mpk kh []])[b]? = some ob->(b<objs.length/\objs[b]? = some ob)\/(b=objs.length/\ob=.mpk kh []):=by
  intro b ob hb;rcases zo b objs.length with hlt|hge
  ·rw[qr hlt] at hb;exact .inl ⟨hlt,hb⟩
  ·rw[jy hge] at hb;rcases jm (b - objs.length) with h0|h0
   ·rw[h0] at hb;simp at hb;exact .inr ⟨by omega,hb.symm⟩
   ·rw[qg (by simp;omega)] at hb;cases hb
 refine⟨_,hle,(hin.alloc _).ghost hle ?_,⟨ha.imm,?_,?_,?_,?_,?_,?_,?_⟩,?_⟩
 ·intro b g hb;rcases hbl b g hb with ⟨rfl,rfl⟩|⟨_,hb⟩
  ·exact .inr hin.size
  ·exact hin.blk b g hb
 ·intro b T' cs' hb;rcases hold b _ hb with ⟨hlt,hb⟩|⟨_,hb⟩
  ·obtain⟨g,zs,k1,k2,k3,k4⟩:=ha.box b T' cs' hb;exact⟨g,zs,hle.blk b g k1,k2,Ac.mono hle (Ak.le.refl I) _ _ k3,k4⟩
  ·cases hb
 ·intro b E sz gen n xs hb;rcases hold b _ hb with ⟨hlt,hb⟩|⟨_,hb⟩
  ·obtain⟨v,zs,k1,k2,k3,k4,k5⟩:=ha.row b E sz gen n xs hb;refine⟨v,zs,k1,k2,Ac.mono hle (Ak.le.refl I) _ _ k3,k4,?_⟩;show (if b=objs.length then _ else _)=_;rw[if_neg (by omega)];exact k5
  ·cases hb
 ·intro b hh es hb;rcases hold b _ hb with ⟨hlt,hb⟩|⟨rfl,hb⟩
  ·obtain⟨g,en,ck,k1,k2,k3⟩:=ha.map b hh es hb;exact⟨g,en,ck,hle.blk b g k1,k2,k3.mono hle (Ak.le.refl I)⟩
  ·have hb:kh=hh/\es=[]:=by simpa using hb
   obtain⟨rfl,rfl⟩:=hb;exact⟨w.heap.size,#[],0,by simp[Gh.box],by simpa using heap_alloc_new w (.map #[] 0),by simp[Gq,Ac]⟩
 ·intro b b' g hb hb';rcases hbl b g hb with ⟨rfl,rfl⟩|⟨_,hb⟩<;>rcases hbl b' _ hb' with ⟨rfl,e⟩|⟨_,hb'⟩
  ·rfl
  ·have:=h.lt b' _ hb';omega
  ·have:=h.lt b _ hb;omega
  ·exact h.inj b b' g hb hb'
 ·intro b g hb;rcases hbl b g hb with ⟨rfl,rfl⟩|⟨_,hb⟩
  ·simp
  ·exact ha.lt b g hb
 ·intro b g o v hb hi;rcases hbl b g hb with ⟨rfl,rfl⟩|⟨_,hb⟩
  ·have:=World.block_lt_of_cell? (h:=h.imm _ _ _ hi);simp at this
  ·exact h.apart b g o v hb hi
 ·intro b hb;simp at hb;have:=h.fresh b (by omega);refine⟨?_,this.2⟩;show (if b=objs.length then _ else _)=_;rw[if_neg (by omega)];exact this.1
 ·simp only[Ab];exact⟨w.heap.size,by simp[Gh.box],rfl⟩
section
variable {P:Program} {C:Cx} {type:TypeId} {objs:List OB} {tm:List AV} {K:List OB->AV->Prop}
theorem Wu (x:Operand) (h:K objs ((Ad x).ev tm)):AA P C (.move x) type objs tm K :=
 A9 _ h fun G I a w hm hd op ho ht=>⟨a.eval x,by unfold execOp;rw[ho];rfl,Aq hd x⟩
theorem aN (x:Operand) (h:K objs ((Ad x).ev tm)):AA P C (.assign x) type objs tm K :=
 A9 _ h fun G I a w hm hd op ho ht=>⟨a.eval x,by unfold execOp;rw[ho];rfl,Aq hd x⟩
theorem Wv (c x y:Operand) (t:Bool) (hc:(Ad c).ev tm=.b t) (h1:t=true->K objs ((Ad x).ev tm)) (h2:t=false->K objs ((Ad y).ev tm)):AA P C (.pick c x y) type objs tm K:=by
 cases t with
 | true=>
  refine A9 _ (h1 rfl) fun G I a w hm hd op ho ht=>?_;have:=Aq hd c;rw[hc] at this;simp only[Ab] at this;exact⟨a.eval x,by unfold execOp;rw[ho];simp[this,asBool],Aq hd x⟩
 | false=>
  refine A9 _ (h2 rfl) fun G I a w hm hd op ho ht=>?_;have:=Aq hd c;rw[hc] at this;simp only[Ab] at this;exact⟨a.eval y,by unfold execOp;rw[ho];simp[this,asBool],Aq hd y⟩
theorem IH (G:Gh) (I:Ak):∀ys:List Value,Ac G I (ys.map DD) ys
 | []=>Ac.nil
 | y::ys=>Ac.cons (Iu G I y) (IH G I ys)
theorem Yf (T:TypeId) (i:TypeInfo) (z:Value) (hi:P.info? T=some i) (hz:i.zero=some z) (h1:(z.cells.toList.all (·.oneCell'))=true)
  (h:K (objs++[.box T (z.cells.toList.map DD)]) (.p objs.length 0)):AA P C (.alloc T) type objs tm K:=by
 intro G I a w hin hm hd op next Q ho ht hn;obtain⟨G',k1,k2,k3,k4⟩:=Pr hin hm T (z.cells.toList.map DD) z.cells (IH G I _) (fun u hu=>(zj.1 h1) u hu);refine CK (w':=w.alloc (.cells z.cells T)) (y:=.pointer (some ⟨w.heap.size,0,none⟩)) ?_ (hn _ _ _ _ _ _ h k1 (Ak.le.refl I) k2 k3 k4);unfold execOp;rw[ho];simp[Instr.alloc,zeroValue,typeInfo,hi,hz,newVar,newRow]
theorem rH (T:TypeId) (x:Operand) (h1:((Ad x).ev tm).flat=true) (h:K (objs++[.box T ((Ad x).ev tm).cells]) (.p objs.length 0)):AA P C (.box T x) type objs tm K:=by
 intro G I a w hin hm hd op next Q ho ht hn;obtain⟨d1,d2⟩:=Ll (Aq hd x) h1;obtain⟨G',k1,k2,k3,k4⟩:=Pr hin hm T _ (a.eval x).cells d1 d2;refine CK (w':=w.alloc (.cells (a.eval x).cells T)) (y:=.pointer (some ⟨w.heap.size,0,none⟩)) ?_ (hn _ _ _ _ _ _ h k1 (Ak.le.refl I) k2 k3 k4);unfold execOp;rw[ho];simp[Instr.box,newVar,newRow]
theorem B9 (g j:Nat) (o:Nat):(⟨g,o,none⟩:Addr).add j=⟨g,o+j,none⟩:=Addr.add_mid g o j
theorem Yj (T:TypeId) (x:Operand) (d:TypeDesc) (hu:P.underlying T=some d) (hr:d.isRow=false) (b off:Nat) (B:TypeId) (cs:List AV) (v:AV) (hx:(Ad x).ev tm=.p b off) (hb:objs[b]? = some (.box B cs)) (hc:cs[off]? = some v)
  (h:K objs v):AA P C (.load T x) type objs tm K :=
 A9 _ h fun G I a w hm hd op ho ht=>by
  have h1:=Aq hd x;rw[hx] at h1;simp only[Ab] at h1;obtain⟨g,hg,he⟩:=h1;obtain⟨g',ys,k1,k2,k3,k4⟩:=hm.box b B cs hb;obtain rfl:g=g':=zx.inj (hg.symm.trans k1);obtain⟨y,hy,hyd⟩:=Ac.get off k3 hc;refine⟨y,?_,hyd⟩;have hcell:w.cell? ⟨g,off,none⟩=some y:=by rw[cell_of_row w g off _ B (0,0) k2];simpa using hy
  unfold execOp;rw[ho];have hagg:(isAgg T).run P w=.ok false w:=by
   unfold isAgg;rw[Sem.run_bind,run_underlying hu w]
   cases d<;>simp_all
  simp[Instr.loadAt,Instr.sureAddr,he,loadVar,hagg,load,Sem.run,hcell]
theorem Yk (T:TypeId) (x:Operand) (d:TypeDesc) (hu:P.underlying T=some d) (hr:d.isRow=true) (sz:Nat) (hs:(P.info? T).map (·.size)=some sz) (b off:Nat) (B:TypeId) (cs:List AV) (hx:(Ad x).ev tm=.p b off) (hb:objs[b]? = some (.box B cs)) (hc:off+sz<=cs.length)
  (h:K objs (.agg ((cs.drop off).take sz))):AA P C (.load T x) type objs tm K :=
 A9 _ h fun G I a w hm hd op ho ht=>by
  have h1:=Aq hd x;rw[hx] at h1;simp only[Ab] at h1;obtain⟨g,hg,he⟩:=h1;obtain⟨g',ys,k1,k2,k3,k4⟩:=hm.box b B cs hb;obtain rfl:g=g':=zx.inj (hg.symm.trans k1);have hl:=k3.length;refine⟨.agg ((ys.drop off).take sz).toArray,?_,?_⟩
  ·unfold execOp;rw[ho];have:=run_loadAt_mid (P:=P) w g off T ((ys.drop off).take sz) d ?_ hu hr (by rw[hs];simp;omega)
   ·simp[he,this]
   ·intro j v hj;rw[cell_of_row w g (off+j) _ B (0,0) k2];rw[xh] at hj
    split at hj
    ·simpa[ju] using hj
    ·cases hj
  ·simp only[Ab];exact⟨_,rfl,Ac.take sz (Ac.drop off k3),fun u hu=>k4 u (ji (jo hu))⟩
theorem aQ (T:TypeId) (x:Operand) (d:TypeDesc) (hu:P.underlying T=some d) (hr:d.isRow=false) (xs:List AV) (j:Nat) (v:AV) (hx:(Ad x).ev tm=.prow xs j) (hc:xs[j]? = some v)
  (h:K objs v):AA P C (.load T x) type objs tm K :=
 A9 _ h fun G I a w hm hd op ho ht=>by
  have h1:=Aq hd x;rw[hx] at h1;simp only[Ab] at h1;obtain⟨g,off,ys,he,k3,k4,k5⟩:=h1;obtain⟨y,hy,hyd⟩:=Ac.get j k3 hc;refine⟨y,?_,hyd⟩;have hcell:=hm.imm _ _ _ (k5 j y hy);unfold execOp;rw[ho];have hagg:(isAgg T).run P w=.ok false w:=by
   unfold isAgg;rw[Sem.run_bind,run_underlying hu w]
   cases d<;>simp_all
  simp[Instr.loadAt,Instr.sureAddr,he,loadVar,hagg,load,Sem.run,hcell]
theorem aS (T:TypeId) (x:Operand) (d:TypeDesc) (hu:P.underlying T=some d) (hr:d.isRow=true) (sz:Nat) (hs:(P.info? T).map (·.size)=some sz) (xs:List AV) (j:Nat) (hx:(Ad x).ev tm=.prow xs j) (hc:j+sz<=xs.length)
  (h:K objs (.agg ((xs.drop j).take sz))):AA P C (.load T x) type objs tm K :=
 A9 _ h fun G I a w hm hd op ho ht=>by
  have h1:=Aq hd x;rw[hx] at h1;simp only[Ab] at h1;obtain⟨g,off,ys,he,k3,k4,k5⟩:=h1;have hl:=k3.length;refine⟨.agg ((ys.drop j).take sz).toArray,?_,?_⟩
  ·unfold execOp;rw[ho];have:=run_loadAt_mid (P:=P) w g (off+j) T ((ys.drop j).take sz) d ?_ hu hr (by rw[hs];simp;omega)
   ·simp[he,this]
   ·intro i v hi;rw[xh] at hi
    split at hi
    ·rw[ju] at hi;rw[Nat.add_assoc];exact hm.imm _ _ _ (k5 (j+i) v hi)
    ·cases hi
  ·simp only[Ab];exact⟨_,rfl,Ac.take sz (Ac.drop j k3),fun u hu=>k4 u (ji (jo hu))⟩
theorem Yl (T:TypeId) (x y:Operand) (sz:Nat) (hs:(P.info? T).map (·.size)=some sz) (b off:Nat) (B:TypeId) (cs:List AV) (hx:(Ad x).ev tm=.p b off) (hb:objs[b]? = some (.box B cs)) (hf:((Ad y).ev tm).flat=true) (hv:((Ad y).ev tm).cells.length=sz) (hc:off+sz<=cs.length)
  (h:K (objs.set b (.box B (Cv cs off ((Ad y).ev tm).cells))) .u):AA P C (.store T x y) type objs tm K:=by
 intro G I a w hin hm hd op next Q ho ht hn;obtain⟨d1,d2⟩:=Ll (Aq hd y) hf;have h1:=Aq hd x;rw[hx] at h1;simp only[Ab] at h1;obtain⟨g,hg,he⟩:=h1;obtain⟨k1,k2⟩:=PI hin hm b g off B cs _ _ hb hg d1 d2 (by rw[hv];exact hc);obtain⟨g',ys,m1,m2,m3,m4⟩:=hm.box b B cs hb;obtain rfl:g=g':=zx.inj (hg.symm.trans m1);have hl:=d1.length;have hl2:=m3.length;have hst:=run_storeCells_cells (P:=P) g off (a.eval y).cells.toList 0 w (fun j hj=>by
   rw[cell_of_row w g (off+0+j) _ B (0,0) m2];simp;omega) (fun j hj=>by simp[World.frozen?,m2]) d2
 refine K9 (w':=w.setCells g off (a.eval y).cells.toList) ?_ (hn _ .u undef G I _ h (Gh.le.refl G) (Ak.le.refl I) k1 k2 (by simp[Ab]));unfold execOp;rw[ho]
 cases hi:P.info? T with
 | none=>rw[hi] at hs;cases hs
 | some i=>
  rw[hi] at hs;have hsz:i.size=sz:=by simpa using hs
  have hz:(a.eval y).cells.size=i.size:=by rw[hsz,<-hv,hl];simp
  simp[Instr.storeAt,Instr.sureAddr,he,storeVar,sizeOf,typeInfo,hi,hz];simp at hst;simp[hst]
theorem Nj {G:Gh} {I:Ak} {objs:List OB} {w:World} (hm:MemOk G I objs w) {b gen j E sz n:Nat} {xs:List AV} {y:Value} (hb:objs[b]? = some (.orow E sz gen n xs)) (h:Ab G I (.porow b gen j) y) :
  ∃g cap ys,y=.pointer (some ⟨g,j,none⟩)/\G.cur b=some (gen,.slice (some ⟨g,0,none⟩) n cap)/\Ac G I xs ys/\(∀u∈ys,u.oneCell'=true)/\(∀i u,ys[i]? = some u->w.cell? ⟨g,i,none⟩=some u)/\∃cur,w.heap[g]? = some (.cells cur E (0,0))/\n*sz<=cur.size/\ys.length=n*sz:=by
 simp only[Ab] at h;obtain⟨g',v,g,k1,k2,rfl,k3⟩:=h;obtain⟨v',ys,m1,m2,m3,m4,m5⟩:=hm.row b E sz gen n xs hb;rw[k1] at m1;injection m1 with m1;injection m1 with m1 m6
 subst m1 m6;obtain⟨n',c,rfl⟩:=k3 rfl;have m2':=m2;obtain⟨q1,q2⟩:=m2;rcases q2 with ⟨q2,_⟩|⟨g',cap',cur,q2,q3,q4,q5,q6,q7,q8⟩
 ·cases q2
 injection q2 with q2 q10 q9;injection q2 with q2;injection q2 with q2;subst q2 q9 q10
 refine⟨g,c,ys,rfl,k1,m3,m4,fun i u hi=>?_,cur,q4,by rw[q7];exact jb _ q5,q1⟩;have:=m2'.cells (g:=g) rfl i u hi
 rwa [B9,zz] at this
theorem aP (T:TypeId) (x:Operand) (d:TypeDesc) (hu:P.underlying T=some d) (hr:d.isRow=false) (b gen j E sz n:Nat) (xs:List AV) (v:AV) (hx:(Ad x).ev tm=.porow b gen j) (hb:objs[b]? = some (.orow E sz gen n xs)) (hc:xs[j]? = some v)
  (h:K objs v):AA P C (.load T x) type objs tm K :=
 A9 _ h fun G I a w hm hd op ho ht=>by
  have h1:=Aq hd x;rw[hx] at h1;obtain⟨g,cap,ys,he,k2,k3,k4,k5,_⟩:=Nj hm hb h1;obtain⟨y,hy,hyd⟩:=Ac.get j k3 hc;refine⟨y,?_,hyd⟩;have hcell:=k5 j y hy;unfold execOp;rw[ho];have hagg:(isAgg T).run P w=.ok false w:=by
   unfold isAgg;rw[Sem.run_bind,run_underlying hu w]
   cases d<;>simp_all
  simp[Instr.loadAt,Instr.sureAddr,he,loadVar,hagg,load,Sem.run,hcell]
theorem aR (T:TypeId) (x:Operand) (d:TypeDesc) (hu:P.underlying T=some d) (hr:d.isRow=true) (s:Nat) (hs:(P.info? T).map (·.size)=some s) (b gen j E sz n:Nat) (xs:List AV) (hx:(Ad x).ev tm=.porow b gen j) (hb:objs[b]? = some (.orow E sz gen n xs)) (hc:j+s<=xs.length)
  (h:K objs (.agg ((xs.drop j).take s))):AA P C (.load T x) type objs tm K :=
 A9 _ h fun G I a w hm hd op ho ht=>by
  have h1:=Aq hd x;rw[hx] at h1;obtain⟨g,cap,ys,he,k2,k3,k4,k5,_⟩:=Nj hm hb h1;have hl:=k3.length;refine⟨.agg ((ys.drop j).take s).toArray,?_,?_⟩
  ·unfold execOp;rw[ho];have:=run_loadAt_mid (P:=P) w g j T ((ys.drop j).take s) d ?_ hu hr (by rw[hs];simp;omega)
   ·simp[he,this]
   ·intro i v hi;rw[xh] at hi
    split at hi
    ·rw[ju] at hi;exact k5 (j+i) v hi
    ·cases hi
  ·simp only[Ab];exact⟨_,rfl,Ac.take s (Ac.drop j k3),fun u hu=>k4 u (ji (jo hu))⟩
theorem aT (T:TypeId) (x y:Operand) (s:Nat) (hs:(P.info? T).map (·.size)=some s) (b gen j E sz n:Nat) (xs:List AV) (hx:(Ad x).ev tm=.porow b gen j) (hb:objs[b]? = some (.orow E sz gen n xs)) (hf:((Ad y).ev tm).flat=true) (hv:((Ad y).ev tm).cells.length=s) (hc:j+s<=xs.length)
  (h:K (objs.set b (.orow E sz gen n (Cv xs j ((Ad y).ev tm).cells))) .u):AA P C (.store T x y) type objs tm K:=by
 intro G I a w hin hm hd op next Q ho ht hn;obtain⟨d1,d2⟩:=Ll (Aq hd y) hf;have h1:=Aq hd x;rw[hx] at h1;obtain⟨g,cap,ys,he,hg,k3,k4,k5,cur,hcur,hcs,hys⟩:=Nj hm hb h1;obtain⟨k1,k2⟩:=PK hin hm b g j E sz gen n cap xs _ _ hb hg d1 d2 (by rw[hv];exact hc);have hl:=d1.length;have hl2:=k3.length;have hst:=run_storeCells_cells (P:=P) g j (a.eval y).cells.toList 0 w (fun i hi=>by
   have hi':j+i<cur.size:=by omega
   rw[show j+0+i=j+i by omega,cell_of_row w g (j+i) cur E (0,0) hcur];simp[hi']) (fun i hi=>by simp[World.frozen?,hcur]) d2
 refine K9 (w':=w.setCells g j (a.eval y).cells.toList) ?_ (hn _ .u undef G I _ h (Gh.le.refl G) (Ak.le.refl I) k1 k2 (by simp[Ab]));unfold execOp;rw[ho]
 cases hi:P.info? T with
 | none=>rw[hi] at hs;cases hs
 | some i=>
  rw[hi] at hs;have hsz:i.size=s:=by simpa using hs
  have hz:(a.eval y).cells.size=i.size:=by rw[hsz,<-hv,hl];simp
  simp[Instr.storeAt,Instr.sureAddr,he,storeVar,sizeOf,typeInfo,hi,hz];simp at hst;simp[hst]
theorem Kx (x:Operand) (h:K objs ((Ad x).ev tm)) (hx:(∃b o,(Ad x).ev tm=.p b o)\/(∃xs j,(Ad x).ev tm=.prow xs j)\/(∃f fs cs,(Ad x).ev tm=.fn f fs cs)\/(∃b gen j,(Ad x).ev tm=.porow b gen j)):AA P C (.nilCheck x) type objs tm K :=
 A9 _ h fun G I a w hm hd op ho ht=>by
  have h1:=Aq hd x;refine⟨a.eval x,?_,h1⟩;rcases hx with ⟨b,o,e⟩|⟨xs,j,e⟩|⟨f,fs,cs,e⟩|⟨b,gen,j,e⟩
  ·rw[e] at h1;simp only[Ab] at h1;obtain⟨g,_,he⟩:=h1;unfold execOp;rw[ho];simp[he]
  ·rw[e] at h1;simp only[Ab] at h1;obtain⟨g,off,ys,he,_⟩:=h1;unfold execOp;rw[ho];simp[he]
  ·rw[e] at h1;simp only[Ab] at h1;obtain⟨us,ys,he,_⟩:=h1;unfold execOp;rw[ho];simp[he]
  ·rw[e] at h1;simp only[Ab] at h1;obtain⟨_,_,g,_,_,he,_⟩:=h1;unfold execOp;rw[ho];simp[he]
theorem eR (f:FuncId) (fs cs:Array Operand) (h:K objs (.fn f (fs.toList.map fun x=>(Ad x).ev tm) (cs.toList.map fun x=>(Ad x).ev tm))):AA P C (.makeFunc (.func f) fs cs) type objs tm K :=
 A9 _ h fun G I a w hm hd op ho ht=>by
  refine⟨.func (.func f) (fs.map a.eval) (cs.map a.eval),by unfold execOp;rw[ho];simp[Instr.makeFunc],?_⟩;have key:∀l:List Operand,Ac G I (l.map fun x=>(Ad x).ev tm) (l.map a.eval):=by
   intro l
   induction l with
   | nil=>exact Ac.nil
   | cons x l ih=>exact Ac.cons (Aq hd x) ih
  simp only[Ab];exact⟨(fs.map a.eval).toList,(cs.map a.eval).toList,by rw[Array.toArray_toList,Array.toArray_toList],by simpa using key fs.toList,by simpa using key cs.toList⟩
theorem bX (x:Operand) (k:Nat) (cs:List AV) (v:AV) (hx:(Ad x).ev tm=.tup cs) (hk:cs[k]? = some v) (h:K objs v):AA P C (.extract x k) type objs tm K :=
 A9 _ h fun G I a w hm hd op ho ht=>by
  have h1:=Aq hd x;rw[hx] at h1;simp only[Ab] at h1;obtain⟨ys,he,k3⟩:=h1;obtain⟨y,hy,hyd⟩:=Ac.get k k3 hk;exact⟨y,by unfold execOp;rw[ho];simp[he,Instr.extract,hy],hyd⟩
theorem qI (T:TypeId) (x:Operand) (t:Bool) (hx:(Ad x).ev tm=.b t) (h:K objs (.b (!t))):AA P C (.unOp .not T x) type objs tm K :=
 A9 _ h fun G I a w hm hd op ho ht=>by
  have h1:=Aq hd x;rw[hx] at h1;simp only[Ab] at h1;exact⟨.bool (!t),by unfold execOp;rw[ho];simp[h1,Op.unary],by simp[Ab]⟩
theorem qH (T:TypeId) (x:Operand) (k:IntKind) (n:Int) (hx:(Ad x).ev tm=.i k n) (h:K objs (.i k (k.wrap (0 - n)))):AA P C (.unOp .neg T x) type objs tm K :=
 A9 _ h fun G I a w hm hd op ho ht=>by
  have h1:=Aq hd x;rw[hx] at h1;simp only[Ab] at h1;exact⟨.int k (k.wrap (0 - n)),by unfold execOp;rw[ho];simp[h1,Op.unary,Op.intArith],by simp[Ab]⟩
theorem rJ (src dst:TypeId) (x:Operand) (k j:IntKind) (n:Int) (hs:(P.underlying src).isSome=true) (hu:P.underlying dst=some (.int k)) (hx:(Ad x).ev tm=.i j n) (h:K objs (.i k (k.wrap n))):AA P C (.convert src dst x) type objs tm K :=
 A9 _ h fun G I a w hm hd op ho ht=>by
  have h1:=Aq hd x;rw[hx] at h1;simp only[Ab] at h1;exact⟨.int k (k.wrap n),by
   have hk:P.intKind dst=k:=by simp[Program.intKind,hu]
   have hr:=run_convert_int (P:=P) w src dst j n hs (by rw[hk];exact hu);rw[hk] at hr;unfold execOp;rw[ho];simp only[h1];simp[hr],by simp[Ab]⟩
theorem rK (src dst:TypeId) (x:Operand) (l:List UInt8) (hs:P.underlying src=some .string) (hu:P.underlying dst=some .string) (hx:(Ad x).ev tm=.s l) (h:K objs (.s l)):AA P C (.convert src dst x) type objs tm K :=
 A9 _ h fun G I a w hm hd op ho ht=>by
  have h1:=Aq hd x;rw[hx] at h1;simp only[Ab] at h1;exact⟨.string ⟨l.toArray⟩,by unfold execOp;rw[ho];simp[h1,convert,run_underlying hs,run_underlying hu],by simp[Ab]⟩
end
def Vi:BinOp->Int->Int->Option Bool
 | .eql,x,y=>some (decide (x=y))
 | .neq,x,y=>some (decide (¬x=y))
 | .lss,x,y=>some (decide (x<y))
 | .leq,x,y=>some (decide (x<=y))
 | .gtr,x,y=>some (decide (y<x))
 | .geq,x,y=>some (decide (y<=x))
 | _,_,_=>none
def VD:BinOp->Int->Int->Option Int
 | .add,x,y=>some (x+y)
 | .sub,x,y=>some (x - y)
 | .mul,x,y=>some (x*y)
 | _,_,_=>none
theorem OL {α:Type} [DecidableEq α] (x y:α):(x==y)=decide (x=y):=by by_cases h:x=y<;>simp[h]
def IW (tm:List AV) (d:Int):Option Operand->Option Int
 | none=>some d
 | some x=>match (Ad x).ev tm with
  | .i _ n=>some n
  | _=>none
theorem Y4 (l:List UInt8) (i j:Nat):(⟨l.toArray⟩:ByteArray).extract i j=⟨((l.take j).drop i).toArray⟩:=by
 have:((⟨l.toArray⟩:ByteArray).extract i j).data=((l.take j).drop i).toArray:=by
  rw[ByteArray.data_extract]
  apply Array.ext'
  simp only[Array.toList_extract,List.extract_eq_take_drop];rw[List.drop_take]
 exact congrArg ByteArray.mk this
theorem FX (l:List UInt8):(⟨l.toArray⟩:ByteArray).size=l.length:=by simp[ByteArray.size]
section
variable {P:Program} {C:Cx} {type:TypeId} {objs:List OB} {tm:List AV} {K:List OB->AV->Prop}
theorem Ik (op:BinOp) (T T':TypeId) (x y:Operand) (k:IntKind) (m n:Int) (r:Bool) (hx:(Ad x).ev tm=.i k m) (hy:(Ad y).ev tm=.i k n) (hr:Vi op m n=some r) (h:K objs (.b r)):AA P C (.binOp op T x y T') type objs tm K :=
 A9 _ h fun G I a w hm hd o ho ht=>by
  have h1:=Aq hd x;rw[hx] at h1;simp only[Ab] at h1;have h2:=Aq hd y;rw[hy] at h2;simp only[Ab] at h2;refine⟨.bool r,?_,by simp[Ab]⟩;unfold execOp;rw[ho]
  cases op<;>simp only[Vi,zx.injEq,reduceCtorEq] at hr<;>subst hr<;>simp[h1,h2,eqGuard,binOp,Op.intCmp,bne,OL]
theorem Mv (op:BinOp) (T T':TypeId) (x y:Operand) (k:IntKind) (m n r:Int) (hx:(Ad x).ev tm=.i k m) (hy:(Ad y).ev tm=.i k n) (hr:VD op m n=some r) (h:K objs (.i k (k.wrap r))):AA P C (.binOp op T x y T') type objs tm K :=
 A9 _ h fun G I a w hm hd o ho ht=>by
  have h1:=Aq hd x;rw[hx] at h1;simp only[Ab] at h1;have h2:=Aq hd y;rw[hy] at h2;simp only[Ab] at h2;refine⟨.int k (k.wrap r),?_,by simp[Ab]⟩;unfold execOp;rw[ho]
  cases op<;>simp only[VD,zx.injEq,reduceCtorEq] at hr<;>subst hr<;>simp[h1,h2,eqGuard,binOp,Op.intArith]
theorem qJ (T T':TypeId) (x y:Operand) (k:IntKind) (m n:Int) (hx:(Ad x).ev tm=.i k m) (hy:(Ad y).ev tm=.i k n) (hn:n≠0) (h:K objs (.i k (k.wrap (m.tdiv n)))):AA P C (.binOp .quo T x y T') type objs tm K :=
 A9 _ h fun G I a w hm hd o ho ht=>by
  have h1:=Aq hd x;rw[hx] at h1;simp only[Ab] at h1;have h2:=Aq hd y;rw[hy] at h2;simp only[Ab] at h2;refine⟨.int k (k.wrap (m.tdiv n)),?_,by simp[Ab]⟩;unfold execOp;rw[ho];simp[h1,h2,eqGuard,binOp,Op.intDiv,hn]
theorem qK (T T':TypeId) (x y:Operand) (k:IntKind) (m n:Int) (hx:(Ad x).ev tm=.i k m) (hy:(Ad y).ev tm=.i k n) (hn:n≠0) (h:K objs (.i k (m.tmod n))):AA P C (.binOp .rem T x y T') type objs tm K :=
 A9 _ h fun G I a w hm hd o ho ht=>by
  have h1:=Aq hd x;rw[hx] at h1;simp only[Ab] at h1;have h2:=Aq hd y;rw[hy] at h2;simp only[Ab] at h2;refine⟨.int k (m.tmod n),?_,by simp[Ab]⟩;unfold execOp;rw[ho];simp[h1,h2,eqGuard,binOp,Op.intDiv,hn]
theorem rI (T T':TypeId) (x y:Operand) (l m:List UInt8) (hx:(Ad x).ev tm=.s l) (hy:(Ad y).ev tm=.s m) (hl:l.length+m.length<=9223372036854775807) (h:K objs (.s (l++m))):AA P C (.binOp .add T x y T') type objs tm K :=
 A9 _ h fun G I a w hm hd o ho ht=>by
  have h1:=Aq hd x;rw[hx] at h1;simp only[Ab] at h1;have h2:=Aq hd y;rw[hy] at h2;simp only[Ab] at h2;refine⟨.string ⟨(l++m).toArray⟩,?_,by simp[Ab]⟩;unfold execOp;rw[ho];have hs:=run_string_add_sum (P:=P) w ⟨l.toArray⟩ ⟨m.toArray⟩ (by rw[FX,FX];exact hl);have e:(⟨l.toArray⟩++⟨m.toArray⟩:ByteArray)=⟨(l++m).toArray⟩:=by
   apply ByteArray.ext;simp[ByteArray.data_append]
  rw[e] at hs;simp[h1,h2,eqGuard,binOp,hs]
theorem Pz (op:BinOp) (T T':TypeId) (x y:Operand) (l m:List UInt8) (r:Bool) (hx:(Ad x).ev tm=.s l) (hy:(Ad y).ev tm=.s m) (hr:(op=.eql/\r=decide (l=m))\/(op=.neq/\r=decide (¬l=m))) (h:K objs (.b r)):AA P C (.binOp op T x y T') type objs tm K :=
 A9 _ h fun G I a w hm hd o ho ht=>by
  have h1:=Aq hd x;rw[hx] at h1;simp only[Ab] at h1;have h2:=Aq hd y;rw[hy] at h2;simp only[Ab] at h2;refine⟨.bool r,?_,by simp[Ab]⟩;unfold execOp;rw[ho];have e1:(⟨l.toArray⟩:ByteArray).toList=l:=by rw[ByteArray.toList_eq]
  have e2:(⟨m.toArray⟩:ByteArray).toList=m:=by rw[ByteArray.toList_eq]
  rcases hr with ⟨rfl,rfl⟩|⟨rfl,rfl⟩<;>(simp[h1,h2,eqGuard,binOp,Op.stringOp,e1,e2,OL];try (by_cases hh:l=m<;>simp[hh]))
theorem Pu (op:BinOp) (T T':TypeId) (x y:Operand) (l m r:Bool) (hu:P.underlying T=some .bool) (hx:(Ad x).ev tm=.b l) (hy:(Ad y).ev tm=.b m) (hr:(op=.eql/\r=(l==m))\/(op=.neq/\r=!(l==m))) (h:K objs (.b r)):AA P C (.binOp op T x y T') type objs tm K :=
 A9 _ h fun G I a w hm hd o ho ht=>by
  have h1:=Aq hd x;rw[hx] at h1;simp only[Ab] at h1;have h2:=Aq hd y;rw[hy] at h2;simp only[Ab] at h2;refine⟨.bool r,?_,by simp[Ab]⟩;unfold execOp;rw[ho];have hs:=run_equal_bool (P:=P) w T l m hu;rcases hr with ⟨rfl,rfl⟩|⟨rfl,rfl⟩<;>simp[h1,h2,eqGuard,binOp,hs]
theorem rM (T:TypeId) (x y:Operand) (l:List UInt8) (k:IntKind) (n:Int) (hu:P.underlying T=some .string) (hx:(Ad x).ev tm=.s l) (hy:(Ad y).ev tm=.i k n) (h0:0<=n) (h1:n<l.length) (h:K objs (.i .u8 ((l.getD n.toNat 0).toNat:Int))):AA P C (.index T x y) type objs tm K :=
 A9 _ h fun G I a w hm hd o ho ht=>by
  have e1:=Aq hd x;rw[hx] at e1;simp only[Ab] at e1;have e2:=Aq hd y;rw[hy] at e2;simp only[Ab] at e2;refine⟨.int .u8 ((l.getD n.toNat 0).toNat:Int),?_,by simp[Ab]⟩;unfold execOp;rw[ho];have hlt:n.toNat<l.length:=by omega
  have hg:(⟨l.toArray⟩:ByteArray)[n.toNat]? = some (l.getD n.toNat 0):=by
   rw[getElem?_pos _ _ (by rw[FX];exact hlt)];rw[List.getD_eq_getElem?_getD,zq hlt];rfl
  simp[e1,e2,Instr.index,asIntOf,run_underlying hu,h0,hg]
theorem WA (T:TypeId) (x:Operand) (lo hi:Option Operand) (l:List UInt8) (i j:Int) (hu:P.underlying T=some .string) (hx:(Ad x).ev tm=.s l) (hlo:IW tm 0 lo=some i) (hhi:IW tm l.length hi=some j) (h0:0<=i) (h1:i<=j) (h2:j<=l.length)
  (h:K objs (.s ((l.take j.toNat).drop i.toNat))):AA P C (.slice T x lo hi none) type objs tm K :=
 A9 _ h fun G I a w hm hd o ho ht=>by
  have e1:=Aq hd x;rw[hx] at e1;simp only[Ab] at e1;refine⟨.string ⟨((l.take j.toNat).drop i.toNat).toArray⟩,?_,by simp[Ab]⟩;unfold execOp;rw[ho];have hsl:=FX l;have hb:∀(d:Int) (z:Option Operand) (q:Int),IW tm d z=some q->z=none/\q=d\/∃u k,z=some u/\a.eval u=.int k q:=by
   intro d z q hz
   cases z with
   | none=>simp[IW] at hz;exact .inl ⟨rfl,hz.symm⟩
   | some u=>
    simp only[IW] at hz
    split at hz
    ·rename_i k n hn;have e:=Aq hd u;rw[hn] at e;simp only[Ab] at e;injection hz with hz;subst hz
     exact .inr ⟨u,k,rfl,e⟩
    ·cases hz
  rw[<-Y4];rcases hb _ _ _ hlo with ⟨rfl,rfl⟩|⟨u,k,rfl,e2⟩<;>rcases hb _ _ _ hhi with ⟨rfl,rfl⟩|⟨v,k',rfl,e3⟩
  ·simp[e1,run_sliceAt_string w T _ _ _ _ hu,run_slice_string_all w T _ hu,hsl]
  ·have:=run_slice_string_h (P:=P) w T ⟨l.toArray⟩ hu k' j (by omega) (by rw[hsl];exact h2);simp[e1,e3,run_sliceAt_string w T _ _ _ _ hu,this]
  ·have:=run_slice_string_l (P:=P) w T ⟨l.toArray⟩ hu k i (by omega) (by rw[hsl];omega);simp[e1,e2,run_sliceAt_string w T _ _ _ _ hu,this,hsl]
  ·have:=run_slice_string (P:=P) w T ⟨l.toArray⟩ k k' i j hu h0 h1 (by rw[hsl];exact h2);simp[e1,e2,e3,run_sliceAt_string w T _ _ _ _ hu,this]
theorem Wr (T:TypeId) (ty:TypeId) (x:Operand) (l:List UInt8) (hu:P.underlying T=some .string) (hx:(Ad x).ev tm=.s l) (h:K objs (.i .i64 l.length)):AA P C (.call { callee:=.builtin .len,args:=#[x],argTypes:=#[T] }) ty objs tm K :=
 A9 _ h fun G I a w hm hd o ho ht=>by
  have e1:=Aq hd x;rw[hx] at e1;simp only[Ab] at e1;refine⟨.int .i64 l.length,?_,by simp[Ab]⟩;unfold execOp;rw[ho];simp[resolve,invoke,builtin,Builtin.len_,e1,run_underlying hu,goInt,FX]
theorem KO (T:TypeId) (ty:TypeId) (x:Operand) (e:TypeId) (n:Nat) (hu:P.underlying T=some (.slice e))
  (hx:(∃xs,(Ad x).ev tm=.row n xs)\/((Ad x).ev tm=.nil/\n=0)\/(∃z,(Ad x).ev tm=.zn z/\n=0)\/(∃b gen E sz xs,(Ad x).ev tm=.orow b gen/\objs[b]? = some (.orow E sz gen n xs))) (h:K objs (.i .i64 n)):AA P C (.call { callee:=.builtin .len,args:=#[x],argTypes:=#[T] }) ty objs tm K :=
 A9 _ h fun G I a w hm hd o ho ht=>by
  have e1:=Aq hd x;refine⟨.int .i64 n,?_,by simp[Ab]⟩;have hv:∃q c,a.eval x=.slice q n c:=by
   rcases hx with ⟨xs,hx⟩|⟨hx,rfl⟩|⟨z,hx,rfl⟩|⟨b,gen,E,sz,xs,hx,hb⟩
   ·rw[hx] at e1;simp only[Ab] at e1;obtain⟨q,c,ys,e,_⟩:=e1;exact⟨q,c,e⟩
   ·rw[hx] at e1;simp only[Ab] at e1;exact⟨none,0,e1⟩
   ·rw[hx] at e1;simp only[Ab] at e1;obtain⟨q,c,e,_⟩:=e1;exact⟨q,c,e⟩
   ·rw[hx] at e1;simp only[Ab] at e1;obtain⟨g',v,k1,k2,k3,_⟩:=e1;obtain⟨v',ys,m1,m2,_⟩:=hm.row b E sz gen n xs hb;rw[k1] at m1;injection m1 with m1;injection m1 with m1 m3
    have:=k3 m1.symm;subst m3;rcases m2.2 with ⟨rfl,rfl⟩|⟨g,cap,cur,rfl,_⟩
    ·exact⟨none,0,this⟩
    ·exact⟨_,cap,this⟩
  obtain⟨q,c,hv⟩:=hv;unfold execOp;rw[ho];simp[resolve,invoke,builtin,Builtin.len_,hv,run_underlying hu,goInt]
theorem Mw (T:TypeId) (x:Operand) (k:Nat) (fs:Array Field) (f:Field) (fz:Nat) (v:AV) (hu:P.underlying T=some (.struct fs)) (hf:fs[k]? = some f) (hz:(P.info? f.type).map (·.size)=some fz) (h0:fz≠0)
  (hv:(∃b off,(Ad x).ev tm=.p b off/\v=.p b (off+f.offset))\/(∃xs j,(Ad x).ev tm=.prow xs j/\v=.prow xs (j+f.offset))\/(∃b gen j,(Ad x).ev tm=.porow b gen j/\v=.porow b gen (j+f.offset))) (h:K objs v):AA P C (.fieldAddr T x k) type objs tm K :=
 A9 _ h fun G I a w hm hd o ho ht=>by
  have e1:=Aq hd x;have hp:∀g o':Nat,(fieldPlace ⟨g,o',none⟩ f).run P w=.ok ⟨g,o'+f.offset,none⟩ w:=by
   intro g o'
   cases hi:P.info? f.type with
   | none=>rw[hi] at hz;cases hz
   | some i=>
    rw[hi] at hz;have:i.size≠0:=by simp at hz;omega
    simp[fieldPlace,sizeOf,typeInfo,hi,this,B9]
  rcases hv with ⟨b,off,hx,rfl⟩|⟨xs,j,hx,rfl⟩|⟨b,gen,j,hx,rfl⟩
  ·rw[hx] at e1;simp only[Ab] at e1;obtain⟨g,hg,he⟩:=e1;refine⟨.pointer (some ⟨g,off+f.offset,none⟩),?_,by simp only[Ab];exact⟨g,hg,rfl⟩⟩;unfold execOp;rw[ho];simp[Instr.fieldAt,run_underlying hu,hf,he,Instr.sureAddr,hp]
  ·rw[hx] at e1;simp only[Ab] at e1;obtain⟨g,off,ys,he,k3,k4,k5⟩:=e1;refine⟨.pointer (some ⟨g,off+(j+f.offset),none⟩),?_,by simp only[Ab];exact⟨g,off,ys,rfl,k3,k4,k5⟩⟩;unfold execOp;rw[ho];simp[Instr.fieldAt,run_underlying hu,hf,he,Instr.sureAddr,hp,Nat.add_assoc]
  ·rw[hx] at e1;simp only[Ab] at e1;obtain⟨g',v,g,hg,hle,he,hn⟩:=e1;refine⟨.pointer (some ⟨g,j+f.offset,none⟩),?_,by simp only[Ab];exact⟨g',v,g,hg,hle,rfl,hn⟩⟩;unfold execOp;rw[ho];simp[Instr.fieldAt,run_underlying hu,hf,he,Instr.sureAddr,hp]
theorem JF {T:TypeId} {d:TypeDesc} (hu:P.underlying T=some d) (w:World):(isAgg T).run P w=.ok d.isRow w:=by
 unfold isAgg;rw[Sem.run_bind,run_underlying hu w]
 cases d<;>simp_all
theorem Wn (T:TypeId) (x:Operand) (k:Nat) (fs:Array Field) (f:Field) (d:TypeDesc) (cs:List AV) (v:AV) (hu:P.underlying T=some (.struct fs)) (hf:fs[k]? = some f) (hd':P.underlying f.type=some d) (hr:d.isRow=false) (hx:(Ad x).ev tm=.agg cs) (hc:cs[f.offset]? = some v) (h:K objs v) :
  AA P C (.field T x k) type objs tm K :=
 A9 _ h fun G I a w hm hd o ho ht=>by
  have e1:=Aq hd x;rw[hx] at e1;simp only[Ab] at e1;obtain⟨ys,he,k3,k4⟩:=e1;obtain⟨y,hy,hyd⟩:=Ac.get f.offset k3 hc;refine⟨y,?_,hyd⟩;unfold execOp;rw[ho];simp[Instr.field,run_underlying hu,hf,he,asAgg,part,JF hd',hr,hy]
theorem Wo (T:TypeId) (x:Operand) (k:Nat) (fs:Array Field) (f:Field) (d:TypeDesc) (sz:Nat) (cs:List AV) (hu:P.underlying T=some (.struct fs)) (hf:fs[k]? = some f) (hd':P.underlying f.type=some d) (hr:d.isRow=true) (hs:(P.info? f.type).map (·.size)=some sz) (hx:(Ad x).ev tm=.agg cs) (h:K objs (.agg ((cs.drop f.offset).take sz))) :
  AA P C (.field T x k) type objs tm K :=
 A9 _ h fun G I a w hm hd o ho ht=>by
  have e1:=Aq hd x;rw[hx] at e1;simp only[Ab] at e1;obtain⟨ys,he,k3,k4⟩:=e1;refine⟨.agg ((ys.drop f.offset).take sz).toArray,?_,?_⟩
  ·unfold execOp;rw[ho]
   cases hi:P.info? f.type with
   | none=>rw[hi] at hs;cases hs
   | some i=>
    rw[hi] at hs;have hsz:i.size=sz:=by simpa using hs
    have e:(ys.toArray.extract f.offset (f.offset+sz))=((ys.drop f.offset).take sz).toArray:=by
     apply Array.ext'
     simp[List.extract_eq_take_drop]
    simp[Instr.field,run_underlying hu,hf,he,asAgg,part,JF hd',hr,sizeOf,typeInfo,hi,hsz]
  ·simp only[Ab];exact⟨_,rfl,Ac.take sz (Ac.drop _ k3),fun u hu=>k4 u (ji (jo hu))⟩
theorem Wp (T:TypeId) (x y:Operand) (e:TypeId) (sz len b off:Nat) (k:IntKind) (i:Int) (hu:P.underlying T=some (.array len e)) (hs:(P.info? e).map (·.size)=some sz) (hx:(Ad x).ev tm=.p b off) (hy:(Ad y).ev tm=.i k i) (h0:0<=i) (h1:i<len) (hz:0<sz)
  (h:K objs (.p b (off+i.toNat*sz))):AA P C (.indexAddr T x y) type objs tm K :=
 A9 _ h fun G I a w hm hd o ho ht=>by
  have e1:=Aq hd x;rw[hx] at e1;simp only[Ab] at e1;have e2:=Aq hd y;rw[hy] at e2;simp only[Ab] at e2;obtain⟨g,hg,he⟩:=e1;refine⟨.pointer (some ⟨g,off+i.toNat*sz,none⟩),?_,?_⟩
  ·unfold execOp;rw[ho]
   cases hi:P.info? e with
   | none=>rw[hi] at hs;cases hs
   | some inf=>
    rw[hi] at hs;have hsz:inf.size=sz:=by simpa using hs
    simp[e2,he,Instr.indexAt,asIntOf,run_underlying hu,h0,h1,sizeOf,typeInfo,hi,hsz,B9,Instr.sureAddr]
  ·simp only[Ab];exact⟨g,hg,rfl⟩
theorem rL (T:TypeId) (x y:Operand) (e:TypeId) (sz n:Nat) (xs:List AV) (k:IntKind) (i:Int) (hu:P.underlying T=some (.slice e)) (hs:(P.info? e).map (·.size)=some sz) (hx:(Ad x).ev tm=.row n xs) (hy:(Ad y).ev tm=.i k i) (h0:0<=i) (h1:i<n) (hl:n*sz<=xs.length) (hz:0<sz)
  (h:K objs (.prow xs (i.toNat*sz))):AA P C (.indexAddr T x y) type objs tm K :=
 A9 _ h fun G I a w hm hd o ho ht=>by
  have e1:=Aq hd x;rw[hx] at e1;simp only[Ab] at e1;have e2:=Aq hd y;rw[hy] at e2;simp only[Ab] at e2;obtain⟨q,c,ys,he,hnc,k3,k4,k5⟩:=e1;have hlen:=k3.length;have hpos:0<n*sz:=Nat.mul_pos (by omega) hz;have hy0:ys[0]? = some (ys[0]'(by omega)):=zq (by omega);obtain⟨g,off,rfl,_⟩:=k5 0 _ hy0;refine⟨.pointer (some ⟨g,off+i.toNat*sz,none⟩),?_,?_⟩
  ·unfold execOp;rw[ho]
   cases hi:P.info? e with
   | none=>rw[hi] at hs;cases hs
   | some inf=>
    rw[hi] at hs;have hsz:inf.size=sz:=by simpa using hs
    simp[e2,he,Instr.indexAt,asIntOf,run_underlying hu,h0,h1,sizeOf,typeInfo,hi,hsz,B9]
  ·simp only[Ab];refine⟨g,off,ys,rfl,k3,k4,fun j u hj=>?_⟩;obtain⟨g',off',e,hi⟩:=k5 j u hj;injection e with e;injection e with e4 e5;subst e4 e5
   exact hi
theorem Wq (T:TypeId) (x y:Operand) (e:TypeId) (sz n b gen E:Nat) (xs:List AV) (k:IntKind) (i:Int) (hu:P.underlying T=some (.slice e)) (hs:(P.info? e).map (·.size)=some sz) (hx:(Ad x).ev tm=.orow b gen) (hb:objs[b]? = some (.orow E sz gen n xs)) (hy:(Ad y).ev tm=.i k i) (h0:0<=i) (h1:i<n)
  (h:K objs (.porow b gen (i.toNat*sz))):AA P C (.indexAddr T x y) type objs tm K :=
 A9 _ h fun G I a w hm hd o ho ht=>by
  have e1:=Aq hd x;rw[hx] at e1;simp only[Ab] at e1;have e2:=Aq hd y;rw[hy] at e2;simp only[Ab] at e2;obtain⟨g',v,k1,k2,k3,_⟩:=e1;obtain⟨v',ys,m1,m2,m3,m4,m5⟩:=hm.row b E sz gen n xs hb;rw[k1] at m1;injection m1 with m1;injection m1 with m1 m6
  have hv:=k3 m1.symm;subst m1 m6;rcases m2.2 with ⟨rfl,h0'⟩|⟨g,cap,cur,rfl,q3,q4,q5,q6,q7,q8⟩
  ·omega
  refine⟨.pointer (some ⟨g,i.toNat*sz,none⟩),?_,?_⟩
  ·unfold execOp;rw[ho]
   cases hi:P.info? e with
   | none=>rw[hi] at hs;cases hs
   | some inf=>
    rw[hi] at hs;have hsz:inf.size=sz:=by simpa using hs
    simp[e2,hv,Instr.indexAt,asIntOf,run_underlying hu,h0,h1,sizeOf,typeInfo,hi,hsz,B9]
  ·simp only[Ab];exact⟨_,_,g,k1,zd _,rfl,fun _=>⟨n,cap,rfl⟩⟩
end
theorem In.evolve {C:Cx} {G:Gh} {I:Ak} {w w':World} {row:Option Nat} (h:In C G I w) (hg:w.grownBy w' row) (hr:∀k,row=some k->C.own k\/C.w.heap.size<=k):In C G I w':=by
 refine⟨hg.os.trans h.os,hg.tape.trans h.tape,hg.output.trans h.output,jr h.size hg.size,fun k hk hn=>?_,h.imm,h.news,h.blk,h.gh⟩;rw[hg.block k (xu hk h.size) (fun e=>by rcases hr k e.symm with h1|h1;exact hn h1;omega)];exact h.block k hk hn
theorem Ln {w w':World} {g o:Nat} (h:w'.heap[g]? = w.heap[g]?):w'.cell? ⟨g,o,none⟩=w.cell? ⟨g,o,none⟩:=by simp only[World.cell?,h]
theorem MemOk.evolve {G:Gh} {I:Ak} {objs:List OB} {w w':World} (h:MemOk G I objs w) (hg:w.grownBy w' none):MemOk G I objs w':=by
 refine⟨fun g o v hi=>?_,fun b T cs hb=>?_,fun b E sz gen n xs hb=>?_,fun b hh es hb=>?_,h.inj,fun b g hb=>xu (h.lt b g hb) hg.size,h.apart,h.fresh⟩
 ·rw[<-h.imm g o v hi];exact Ln (hg.block g (World.block_lt_of_cell? (h:=h.imm g o v hi)) (by simp))
 ·obtain⟨g,ys,k1,k2,k3⟩:=h.box b T cs hb;exact⟨g,ys,k1,(hg.block g (h.lt b g (Co k1)) (by simp)).trans k2,k3⟩
 ·obtain⟨v,ys,k1,k2,k3⟩:=h.row b E sz gen n xs hb;refine⟨v,ys,k1,World.ownsRow.kept k2 hg ?_,k3⟩;rcases hv:v.ownBlock with _|g
  ·exact .inl rfl
  ·exact .inr (by simp)
 ·obtain⟨g,en,ck,k1,k2,k3⟩:=h.map b hh es hb;exact⟨g,en,ck,k1,(hg.block g (h.lt b g (Co k1)) (by simp)).trans k2,k3⟩
theorem MemOk.imm_more {G:Gh} {I I':Ak} {objs:List OB} {w:World} (h:MemOk G I objs w) (hle:Ak.le I I') (h1:∀g o v,I' g o v->w.cell? ⟨g,o,none⟩=some v) (h2:∀b g o v,G.own b=some g->¬I' g o v):MemOk G I' objs w:=by
 refine⟨h1,fun b T cs hb=>?_,fun b E sz gen n xs hb=>?_,fun b hh es hb=>?_,h.inj,h.lt,h2,h.fresh⟩
 ·obtain⟨g,zs,k1,k2,k3,k4⟩:=h.box b T cs hb;exact⟨g,zs,k1,k2,Ac.mono (Gh.le.refl G) hle _ _ k3,k4⟩
 ·obtain⟨v,zs,k1,k2,k3,k4,k5⟩:=h.row b E sz gen n xs hb;exact⟨v,zs,k1,k2,Ac.mono (Gh.le.refl G) hle _ _ k3,k4,k5⟩
 ·obtain⟨g,en,ck,k1,k2,k3⟩:=h.map b hh es hb;exact⟨g,en,ck,k1,k2,k3.mono (Gh.le.refl G) hle⟩
theorem In.imm_more {C:Cx} {G:Gh} {I I':Ak} {w:World} (h:In C G I w) (hle:Ak.le I I') (hn:∀g o v,I' g o v->I g o v\/C.own g\/C.w.heap.size<=g):In C G I' w :=
 ⟨h.os,h.tape,h.output,h.size,h.block,fun g o v hi=>hle _ _ _ (h.imm g o v hi),fun g o v hi=>by rcases hn g o v hi with h1|h1;exact h.news g o v h1;exact .inr h1,h.blk,h.gh⟩
theorem NN {C:Cx} {G:Gh} {I:Ak} {objs:List OB} {w w':World} (hin:In C G I w) (h:MemOk G I objs w) (hg:w.grownBy w' none) (g n c:Nat) (xs:List AV) (ys:List Value) (hgw:w.heap.size<=g) (hnc:n<=c)
  (hd:Ac G I xs ys) (h1:∀u∈ys,u.oneCell'=true) (hc:∀(j:Nat) (u:Value),ys[j]? = some u->w'.cell? ⟨g,j,none⟩=some u) :
  ∃I',Ak.le I I'/\In C G I' w'/\MemOk G I' objs w'/\Ab G I' (.row n xs) (.slice (some ⟨g,0,none⟩) n c):=by
 let I':Ak:=fun g' o v=>I g' o v\/(g'=g/\ys[o]? = some v)
 have hle:Ak.le I I':=fun _ _ _ hi=>.inl hi;have hin':=hin.evolve hg (by simp);have h':=h.evolve hg;refine⟨I',hle,hin'.imm_more hle ?_,h'.imm_more hle ?_ ?_,?_⟩
 ·rintro g' o v (hi|⟨rfl,_⟩)
  ·exact .inl hi
  ·exact .inr (.inr (jr hin.size hgw))
 ·rintro g' o v (hi|⟨rfl,hy⟩)
  ·exact h'.imm g' o v hi
  ·exact hc o v hy
 ·rintro b g' o v hb (hi|⟨rfl,_⟩)
  ·exact h.apart b g' o v hb hi
  ·have:=h.lt b _ hb;omega
 ·simp only[Ab];exact⟨some ⟨g,0,none⟩,c,ys,rfl,⟨hnc,by rintro _ ⟨⟩ _;rfl⟩,Ac.mono (Gh.le.refl G) hle _ _ hd,h1,fun j u hj=>⟨g,0,rfl,.inr ⟨rfl,by simpa using hj⟩⟩⟩
theorem GH {C:Cx} {G:Gh} {I:Ak} {objs:List OB} {w w':World} (hin:In C G I w) (h:MemOk G I objs w) (hg:w.grownBy w' none) (E sz n:Nat) (xs:List AV) (v:Value) (ys:List Value)
  (ho:w'.ownsRow 0 E sz v n ys) (hd:Ac G I xs ys) (h1:∀u∈ys,u.oneCell'=true) (hv:∀k,v.ownBlock=some k->w.heap.size<=k) :
  ∃G',G.le G'/\In C G' I w'/\MemOk G' I (objs++[.orow E sz 0 n xs]) w'/\Ab G' I (.orow objs.length 0) v:=by
 have hf:=h.fresh objs.length (zd _);have hle:G.le (G.row objs.length 0 v):=Gh.row_le (by intro m u hm;rw[hf.2] at hm;cases hm);have h':=h.evolve hg;have hin':=hin.evolve hg (by simp);have hbl:∀x y,(G.row objs.length 0 v).own x=some y->(x=objs.length/\v.ownBlock=some y)\/(x≠objs.length/\G.own x=some y):=by
  intro x y hx;rw[Gh.row_own _ _ _ _ hf.1] at hx
  split at hx
  ·rename_i e;exact .inl ⟨e,hx⟩
  ·rename_i e;exact .inr ⟨e,hx⟩
 have hvl:∀k,v.ownBlock=some k->k<w'.heap.size:=by
  intro k hk;rcases ho.2 with ⟨rfl,_⟩|⟨g,cap,cur,rfl,_,hh,_⟩
  ·cases hk
  ·obtain rfl:g=k:=by simpa[Value.ownBlock] using hk
   exact(Array.getElem?_eq_some_iff.1 hh).1
 refine⟨_,hle,hin'.ghost hle ?_,⟨h'.imm,?_,?_,?_,?_,?_,?_,?_⟩,?_⟩
 ·intro b g hb;rcases hbl b g hb with ⟨rfl,hb2⟩|⟨_,hb2⟩
  ·exact .inr (jr hin.size (hv _ hb2))
  ·exact hin.blk b g hb2
 ·intro b T' cs' hb;rcases zo b objs.length with hlt|hge
  ·rw[qr hlt] at hb;obtain⟨g,zs,k1,k2,k3,k4⟩:=h'.box b T' cs' hb;exact⟨g,zs,hle.blk b g k1,k2,Ac.mono hle (Ak.le.refl I) _ _ k3,k4⟩
  ·rw[jy hge] at hb;rcases jm (b - objs.length) with h0|h0
   ·rw[h0] at hb;simp at hb
   ·rw[qg (by simp;omega)] at hb;cases hb
 ·intro b E' sz' gen m us hb;rcases zo b objs.length with hlt|hge
  ·rw[qr hlt] at hb;obtain⟨v',zs,k1,k2,k3,k4,k5⟩:=h'.row b E' sz' gen m us hb;refine⟨v',zs,?_,k2,Ac.mono hle (Ak.le.refl I) _ _ k3,k4,?_⟩
   ·show (if b=objs.length then _ else _)=_;rw[if_neg (by omega)];exact k1
   ·exact k5
  ·rw[jy hge] at hb;have hb0:b=objs.length:=by
    rcases jm (b - objs.length) with h0|h0
    ·omega
    ·rw[qg (by simp;omega)] at hb;cases hb
   subst hb0;simp at hb;obtain⟨rfl,rfl,rfl,rfl,rfl⟩:=hb;exact⟨v,ys,by simp[Gh.row],ho,Ac.mono hle (Ak.le.refl I) _ _ hd,h1,hf.1⟩
 ·intro b hh es hb;rcases zo b objs.length with hlt|hge
  ·rw[qr hlt] at hb;obtain⟨g,en,ck,k1,k2,k3⟩:=h'.map b hh es hb;exact⟨g,en,ck,hle.blk b g k1,k2,k3.mono hle (Ak.le.refl I)⟩
  ·rw[jy hge] at hb;rcases jm (b - objs.length) with h0|h0
   ·rw[h0] at hb;simp at hb
   ·rw[qg (by simp;omega)] at hb;cases hb
 ·intro b b' g hb hb';rcases hbl b g hb with ⟨e1,hb2⟩|⟨_,hb2⟩<;>rcases hbl b' _ hb' with ⟨e2,hb3⟩|⟨_,hb3⟩
  ·omega
  ·have:=h.lt b' _ hb3;have:=hv _ hb2;omega
  ·have:=h.lt b _ hb2;have:=hv _ hb3;omega
  ·exact h.inj b b' g hb2 hb3
 ·intro b g hb;rcases hbl b g hb with ⟨rfl,hb2⟩|⟨_,hb2⟩
  ·exact hvl _ hb2
  ·exact h'.lt b g hb2
 ·intro b g o u hb hi;rcases hbl b g hb with ⟨rfl,hb2⟩|⟨_,hb2⟩
  ·have h7:=World.block_lt_of_cell? (h:=h.imm _ _ _ hi);have h8:=hv _ hb2;simp only at h7;omega
  ·exact h.apart b g o u hb2 hi
 ·intro b hb;simp at hb;have:=h.fresh b (by omega);refine⟨this.1,?_⟩;show (if b=objs.length then _ else _)=_;rw[if_neg (by omega)];exact this.2
 ·simp only[Ab];refine⟨0,v,by simp[Gh.row],zd _,fun _=>rfl,?_⟩;rcases ho.2 with ⟨rfl,_⟩|⟨g,cap,cur,rfl,_⟩<;>rfl
theorem Jf {C:Cx} {G:Gh} {I:Ak} {objs:List OB} {w w':World} (hin:In C G I w) (h:MemOk G I objs w) (b E sz gen n n':Nat) (xs xs':List AV) (v v':Value) (ys':List Value) (hb:objs[b]? = some (.orow E sz gen n xs)) (hcur:G.cur b=some (gen,v))
  (hg:w.grownBy w' v.ownBlock) (ho:w'.ownsRow 0 E sz v' n' ys') (hd:Ac G I xs' ys') (h1:∀u∈ys',u.oneCell'=true) (hv:v'.ownBlock=v.ownBlock\/v'.ownBlock=some w.heap.size) :
  ∃G',G.le G'/\In C G' I w'/\MemOk G' I (objs.set b (.orow E sz (gen+1) n' xs')) w'/\Ab G' I (.orow b (gen+1)) v':=by
 obtain⟨v0,ys,m1,m2,m3,m4,m5⟩:=h.row b E sz gen n xs hb;obtain rfl:v=v0:=by rw[hcur] at m1;injection m1 with m1;injection m1 with _ m1
 have hblt:b<objs.length:=by
  rcases zo b objs.length with h0|h0
  ·exact h0
  ·rw[qg h0] at hb;cases hb
 have hob:G.own b=v.ownBlock:=FL m5 hcur;have hle:G.le (G.row b (gen+1) v'):=Gh.row_le (by intro m u hm;rw[hcur] at hm;injection hm with hm;injection hm with hm _;omega);have hbl:∀x y,(G.row b (gen+1) v').own x=some y->(x=b/\v'.ownBlock=some y)\/(x≠b/\G.own x=some y):=by
  intro x y hx;rw[Gh.row_own _ _ _ _ m5] at hx
  split at hx
  ·rename_i e;exact .inl ⟨e,hx⟩
  ·rename_i e;exact .inr ⟨e,hx⟩
 have hvl:∀k,v'.ownBlock=some k->k<w'.heap.size:=by
  intro k hk;rcases ho.2 with ⟨rfl,_⟩|⟨g,cap,cur,rfl,_,hh,_⟩
  ·cases hk
  ·obtain rfl:g=k:=by simpa[Value.ownBlock] using hk
   exact(Array.getElem?_eq_some_iff.1 hh).1
 have hin':In C G I w':=hin.evolve hg (fun k hk=>hin.blk b k (hob.trans hk));refine⟨_,hle,hin'.ghost hle ?_,⟨?_,?_,?_,?_,?_,?_,?_,?_⟩,?_⟩
 ·intro x g hx;rcases hbl x g hx with ⟨_,hx2⟩|⟨_,hx2⟩
  ·rcases hv with hv|hv
   ·exact hin.blk b g (hob.trans (hv▸hx2))
   ·rw[hv] at hx2;injection hx2 with hx2;subst hx2;exact .inr hin.size
  ·exact hin.blk x g hx2
 ·intro g o u hi;rw[<-h.imm g o u hi];refine Ln (hg.block g (World.block_lt_of_cell? (h:=h.imm g o u hi)) ?_);intro e;exact h.apart b g o u (hob.trans e.symm) hi
 ·intro x T' cs' hx
  by_cases e:x=b
  ·subst e;rw[qd hblt] at hx;simp at hx
  ·rw[zp (fun e'=>e e'.symm)] at hx;obtain⟨g,zs,k1,k2,k3,k4⟩:=h.box x T' cs' hx;refine⟨g,zs,hle.blk _ _ k1,(hg.block g (h.lt x g (Co k1)) ?_).trans k2,Ac.mono hle (Ak.le.refl I) _ _ k3,k4⟩;intro e2;exact e (h.inj x b g (Co k1) (hob.trans e2.symm))
 ·intro x E' sz' gen' m us hx
  by_cases e:x=b
  ·subst e;rw[qd hblt] at hx;simp at hx;obtain⟨rfl,rfl,rfl,rfl,rfl⟩:=hx;exact⟨v',ys',by simp[Gh.row],ho,Ac.mono hle (Ak.le.refl I) _ _ hd,h1,m5⟩
  ·rw[zp (fun e'=>e e'.symm)] at hx;obtain⟨u,zs,k1,k2,k3,k4,k5⟩:=h.row x E' sz' gen' m us hx;refine⟨u,zs,?_,World.ownsRow.kept k2 hg ?_,Ac.mono hle (Ak.le.refl I) _ _ k3,k4,k5⟩
   ·show (if x=b then _ else _)=_;rw[if_neg e];exact k1
   ·rcases hu:u.ownBlock with _|g
    ·exact .inl rfl
    ·refine .inr (fun e2=>e (h.inj x b g ?_ (hob.trans e2.symm)));rw[FL k5 k1,hu]
 ·intro x hh es hx
  by_cases e:x=b
  ·subst e;rw[qd hblt] at hx;simp at hx
  ·rw[zp (fun e'=>e e'.symm)] at hx;obtain⟨g,en,ck,k1,k2,k3⟩:=h.map x hh es hx;refine⟨g,en,ck,hle.blk _ _ k1,(hg.block g (h.lt x g (Co k1)) ?_).trans k2,k3.mono hle (Ak.le.refl I)⟩;intro e2;exact e (h.inj x b g (Co k1) (hob.trans e2.symm))
 ·intro x x' g hx hx';rcases hbl x g hx with ⟨e1,hx2⟩|⟨n1,hx2⟩<;>rcases hbl x' _ hx' with ⟨e2,hx3⟩|⟨n2,hx3⟩
  ·omega
  ·rcases hv with hv|hv
   ·rw[e1];exact h.inj b x' g (hob.trans (hv▸hx2)) hx3
   ·rw[hv] at hx2;injection hx2 with hx2;have:=h.lt x' _ hx3;omega
  ·rcases hv with hv|hv
   ·rw[e2];exact h.inj x b g hx2 (hob.trans (hv▸hx3))
   ·rw[hv] at hx3;injection hx3 with hx3;have:=h.lt x _ hx2;omega
  ·exact h.inj x x' g hx2 hx3
 ·intro x g hx;rcases hbl x g hx with ⟨_,hx2⟩|⟨_,hx2⟩
  ·exact hvl _ hx2
  ·exact xu (h.lt x g hx2) hg.size
 ·intro x g o u hx hi;rcases hbl x g hx with ⟨_,hx2⟩|⟨_,hx2⟩
  ·rcases hv with hv|hv
   ·exact h.apart b g o u (hob.trans (hv▸hx2)) hi
   ·rw[hv] at hx2;injection hx2 with hx2
    have h7:=World.block_lt_of_cell? (h:=h.imm _ _ _ hi);simp only at h7;omega
  ·exact h.apart x g o u hx2 hi
 ·intro x hx;rw[zf] at hx;have:=h.fresh x hx;refine⟨this.1,?_⟩;show (if x=b then _ else _)=_;rw[if_neg (by omega)];exact this.2
 ·simp only[Ab];refine⟨gen+1,v',by simp[Gh.row],zd _,fun _=>rfl,?_⟩;rcases ho.2 with ⟨rfl,_⟩|⟨g,cap,cur,rfl,_⟩<;>rfl
theorem PJ {C:Cx} {G:Gh} {I:Ak} {objs:List OB} {w w':World} (hin:In C G I w) (h:MemOk G I objs w) (b g:Nat) (kh:Bool) (es es':List (List UInt8×AV)) (en':Array MapEntry) (ck':Nat) (hb:objs[b]? = some (.mpk kh es)) (hgb:G.blk b=some g)
  (hg:w.grownBy w' (some g)) (hh:w'.heap[g]? = some (.map en' ck')) (he:Gq kh G I es' en'.toList) :
  In C G I w'/\MemOk G I (objs.set b (.mpk kh es')) w':=by
 have hblt:b<objs.length:=by
  rcases zo b objs.length with h0|h0
  ·exact h0
  ·rw[qg h0] at hb;cases hb
 have hob:G.own b=some g:=Co hgb;refine⟨hin.evolve hg (fun k hk=>hin.blk b k (hob.trans hk)),⟨?_,?_,?_,?_,h.inj,fun x g' hx=>xu (h.lt x g' hx) hg.size,h.apart,fun x hx=>h.fresh x (by simpa using hx)⟩⟩
 ·intro g' o u hi;rw[<-h.imm g' o u hi];refine Ln (hg.block g' (World.block_lt_of_cell? (h:=h.imm g' o u hi)) ?_);intro e;injection e with e
  exact h.apart b g' o u (by rw[hob,e]) hi
 ·intro x T' cs' hx
  by_cases e:x=b
  ·subst e;rw[qd hblt] at hx;simp at hx
  ·rw[zp (fun e'=>e e'.symm)] at hx;obtain⟨g',zs,k1,k2,k3,k4⟩:=h.box x T' cs' hx;refine⟨g',zs,k1,(hg.block g' (h.lt x g' (Co k1)) ?_).trans k2,k3,k4⟩;intro e2;exact e (h.inj x b g' (Co k1) (by rw[hob,e2]))
 ·intro x E' sz' gen' m us hx
  by_cases e:x=b
  ·subst e;rw[qd hblt] at hx;simp at hx
  ·rw[zp (fun e'=>e e'.symm)] at hx;obtain⟨u,zs,k1,k2,k3,k4,k5⟩:=h.row x E' sz' gen' m us hx;refine⟨u,zs,k1,World.ownsRow.kept k2 hg ?_,k3,k4,k5⟩;rcases hu:u.ownBlock with _|g'
   ·exact .inl rfl
   ·refine .inr (fun e2=>e (h.inj x b g ?_ hob));rw[FL k5 k1,hu,e2]
 ·intro x hh es2 hx
  by_cases e:x=b
  ·subst e;rw[qd hblt] at hx;have hx:kh=hh/\es'=es2:=by simpa using hx
   obtain⟨rfl,rfl⟩:=hx;exact⟨g,en',ck',hgb,hh,he⟩
  ·rw[zp (fun e'=>e e'.symm)] at hx;obtain⟨g',en,ck,k1,k2,k3⟩:=h.map x hh es2 hx;refine⟨g',en,ck,k1,(hg.block g' (h.lt x g' (Co k1)) ?_).trans k2,k3⟩;intro e2;exact e (h.inj x b g' (Co k1) (by rw[hob,e2]))
def Bf (l:List UInt8):List AV:=l.map fun c=>.i .u8 (c.toNat:Int)
theorem Qn (l:List UInt8):(Bf l).length=l.length:=by simp[Bf]
theorem SA (l m:List UInt8):Bf (l++m)=Bf l++Bf m:=by simp[Bf]
theorem Nm (G:Gh) (I:Ak):∀l:List UInt8,Ac G I (Bf l) (l.map fun c=>Value.int .u8 (c.toNat:Int))
 | []=>Ac.nil
 | c::l=>Ac.cons (by simp[Ab]) (Nm G I l)
theorem JR {G:Gh} {I:Ak}:∀{l:List UInt8} {ys:List Value},Ac G I (Bf l) ys->ys=l.map fun c=>Value.int .u8 (c.toNat:Int)
 | [],ys,h=>by simpa[Bf,Ac] using h
 | c::l,ys,h=>by
  simp only[Bf,zr,Ac,Ab] at h;obtain⟨y,ys',rfl,rfl,h3⟩:=h;simp only[zr];rw[JR (l:=l) h3]
theorem TY (s:ByteArray):Lib.strCells s=s.data.toList.map fun c=>Value.int .u8 (c.toNat:Int):=by simp[Lib.strCells]
theorem Qz (l:List UInt8):∀u∈l.map (fun c=>Value.int .u8 (c.toNat:Int)),u.oneCell'=true:=by
 intro u hu;obtain⟨c,_,rfl⟩:=List.mem_map.1 hu
 rfl
section
variable {P:Program}
theorem UG (w:World) (base:Nat) (t ty e:TypeId) (i:TypeInfo) (size:Nat) (ht:P.underlying t=some (.slice e)) (hi:P.info? e=some i)
  (v:Value) (n:Nat) (xs:List Value) (hown:w.ownsRow base e size v n xs) (c:Nat):(Builtin.append_ #[t,t] ty #[v,.slice none 0 c]).run P w=.ok v w:=by
 rcases hown.2 with ⟨rfl,rfl⟩|⟨g,cap,cur,rfl,_,_,hnc,_⟩
 ·simp[Builtin.append_,run_underlying ht,sizeOf,typeInfo,hi,Builtin.lenOf,Builtin.firstCells]
 ·simp[Builtin.append_,run_underlying ht,sizeOf,typeInfo,hi,Builtin.lenOf,Builtin.firstCells,hnc,storeCells]
theorem UH (w:World) (t u ty e:TypeId) (i:TypeInfo) (ht:P.underlying t=some (.slice e)) (hu:P.underlying u=some .string) (hi:P.info? e=some i) (hz:i.zero=some (.int .u8 0)) (hsize:i.size=1) (hby:i.bytes=1)
  (v:Value) (n:Nat) (xs:List Value) (hown:w.ownsRow 0 e 1 v n xs) (s:ByteArray) (hb:n+s.size<=140737488355328) :
  ∃v' w',(Builtin.append_ #[t,u] ty #[v,.string s]).run P w=.ok v' w'/\w'.ownsRow 0 e 1 v' (n+s.size) (xs++Lib.strCells s)/\w.grownBy w' v.ownBlock/\(v'.ownBlock=v.ownBlock\/v'.ownBlock=some w.heap.size):=by
 obtain⟨v',w',hr,h1,h2,h3⟩:=Lib.run_append_own_string (P:=P) w 0 t u ty e i ht hu hi hz hsize hby v n xs hown s (by simp only[maxLen];omega) hb (ze _);refine⟨v',w',hr,h1,h2,?_⟩;rcases hown.2 with ⟨rfl,rfl⟩|⟨g,cap,cur,rfl,_,hg,hnc,hcm,hcs,htake⟩
 ·by_cases hm:s.size=0
  ·rw[h3.2 ⟨rfl,hm⟩];exact .inl rfl
  ·have hr2:=run_append_nil_string (P:=P) w t u ty e i (.int .u8 0) ht hu hi hz s (by omega) (by omega) (by rw[hby];omega);rw[hr] at hr2;injection hr2 with e1 _
   rw[e1];exact .inr rfl
 ·by_cases hroom:n+s.size<=cap
  ·have hcs':cur.size=cap:=by simpa using hcs
   have hr2:=Lib.run_append_room_string (P:=P) w t u ty e i ht hu hi hsize g n cap cur hg s hroom (by omega);rw[hr] at hr2;injection hr2 with e1 _
   rw[e1];exact .inl rfl
  ·have holds:∀j u,xs[j]? = some u->w.cell? ((⟨g,0,none⟩:Addr).add j)=some u:=hown.cells (g:=g) rfl;have hxl:xs.length=n:=by simpa using hown.1
   have hr2:=Lib.run_append_grow_string (P:=P) w t u ty e i (.int .u8 0) ht hu hi hz ⟨g,0,none⟩ n cap xs (by rw[hsize];simpa using hxl) holds s (by omega) (by omega) (by rw[hby];exact growslice_fits (by omega) (by omega));rw[hr] at hr2;injection hr2 with e1 _
   rw[e1];exact .inr rfl
variable {C:Cx} {type:TypeId} {objs:List OB} {tm:List AV} {K:List OB->AV->Prop}
def Dk (objs:List OB) (v:AV):Option (Nat×List AV) :=
 match v with
 | .row m ys=>some (m,ys)
 | .nil=>some (0,[])
 | .zn _=>some (0,[])
 | .orow b gen=>match objs[b]? with
  | some (.orow _ _ gen' n xs)=>if gen'=gen then some (n,xs) else none
  | _=>none
 | _=>none
theorem cY {v:AV} {p:Nat×List AV} (h:Dk [] v=some p):Dk objs v=some p:=by
 cases v<;>first|exact h|cases h
theorem KF {G:Gh} {I:Ak} {w:World} (hmem:MemOk G I objs w) {v:AV} {m:Nat} {ys:List AV} {y:Value} (hs:Dk objs v=some (m,ys)) (h:Ab G I v y):∃a c us,y=.slice a m c/\Ac G I ys us/\(∀u∈us,u.oneCell'=true)/\∀(j:Nat) u,us[j]? = some u->∃g off,a=some ⟨g,off,none⟩/\w.cell? ⟨g,off+j,none⟩=some u:=by
 cases v<;>simp only[Dk,reduceCtorEq,zx.injEq,Prod.mk.injEq] at hs
 ·obtain⟨rfl,rfl⟩:=hs;simp only[Ab] at h;obtain⟨a,c,us,h1,_,h2,h3,h4⟩:=h;exact⟨a,c,us,h1,h2,h3,fun j u hj=>by obtain⟨g,off,e,hi⟩:=h4 j u hj;exact⟨g,off,e,hmem.imm _ _ _ hi⟩⟩
 ·rename_i b gen
  split at hs
  ·rename_i E sz gen' n xs hb
   split at hs
   ·rename_i hg;subst hg;injection hs with hs;injection hs with e1 e2;subst e1 e2
    obtain⟨v',vs,m1,m2,m3,m4,m5⟩:=hmem.row b E sz gen' n xs hb;simp only[Ab] at h;obtain⟨g0,v,k1,k2,k3,_⟩:=h;rw[k1] at m1;injection m1 with m1;injection m1 with m1 m6
    have hv:=k3 m1.symm;subst m1 m6 hv;rcases m2.2 with ⟨rfl,rfl⟩|⟨g,cap,cur,rfl,hx1,hx2,hx3,hx4⟩
    ·have hvs:vs=[]:=qh (by simpa using m2.1);subst hvs;exact⟨none,0,[],rfl,m3,by simp,by simp⟩
    ·refine⟨some ⟨g,0,none⟩,cap,vs,rfl,m3,m4,fun j u hj=>⟨g,0,rfl,?_⟩⟩;have:=m2.cells (g:=g) rfl j u hj;rw[B9] at this;exact this
   ·cases hs
  ·cases hs
 ·obtain⟨rfl,rfl⟩:=hs;simp only[Ab] at h;obtain⟨a,c,h1,_⟩:=h;exact⟨a,c,[],h1,Ac.nil,by simp,by simp⟩
 ·obtain⟨rfl,rfl⟩:=hs;simp only[Ab] at h;exact⟨none,0,[],h,Ac.nil,by simp,by simp⟩
theorem rE (T ty:TypeId) (x y:Operand) (e:TypeId) (i:TypeInfo) (z:Value) (hu:P.underlying T=some (.slice e)) (hi:P.info? e=some i) (hz:i.zero=some z) (hzs:z.cells.size=i.size) (hsz:0<i.size)
  (b gen n m:Nat) (xs ys:List AV) (hx:(Ad x).ev tm=.orow b gen) (hb:objs[b]? = some (.orow e i.size gen n xs)) (hy:Dk objs ((Ad y).ev tm)=some (m,ys)) (hm:ys.length=m*i.size) (hbytes:(n+m)*i.bytes<=140737488355328) (hmax:n+m<=140737488355328)
  (h:K (objs.set b (.orow e i.size (gen+1) (n+m) (xs++ys))) (.orow b (gen+1))):AA P C (.call { callee:=.builtin .append,args:=#[x,y],argTypes:=#[T,T] }) ty objs tm K:=by
 intro G I a w hin hmem hd o next Q ho ht hn;have e1:=Aq hd x;rw[hx] at e1;simp only[Ab] at e1;obtain⟨g',v,k1,k2,k3,_⟩:=e1;obtain⟨v',vs,m1,m2,m3,m4,m5⟩:=hmem.row b _ _ gen n xs hb;rw[k1] at m1;injection m1 with m1;injection m1 with m1 m6
 have hv:=k3 m1.symm;subst m1 m6;obtain⟨q,c,us,f1,f2,f3,f4⟩:=KF hmem hy (Aq hd y);have hl:=f2.length;have hrun:∃v' w',(Builtin.append_ #[T,T] o.type #[v,.slice q m c]).run P w=.ok v' w'/\w'.ownsRow 0 e i.size v' (n+m) (vs++us)/\w.grownBy w' v.ownBlock/\(v'.ownBlock=v.ownBlock\/v'.ownBlock=some w.heap.size):=by
  cases q with
  | none=>
   have hus:us=[]:=by
    cases us with
    | nil=>rfl
    | cons u us=>obtain⟨g,off,e,_⟩:=f4 0 u rfl;cases e
   subst hus;have hm0:m=0:=by
    rcases jm m with h0|h0
    ·exact h0
    ·have:=Nat.mul_pos h0 hsz;simp at hl;rw[hl] at hm;simp at hm;omega
   subst hm0;exact⟨v,w,UG w 0 T _ e i i.size hu hi v n vs m2 c,by simpa using m2,World.grownBy.refl w _,.inl rfl⟩
  | some ad=>
   have hnews:∀j u,us[j]? = some u->w.cell? (ad.add j)=some u:=by
    intro j u hj;obtain⟨g,off,e2,hI⟩:=f4 j u hj;injection e2 with e2;subst e2
    rw[B9];exact hI
   obtain⟨v',w',r1,r2,r3,_,r5⟩:=run_append_own_at (P:=P) w 0 T o.type e i z i.size i.bytes hu hi hz rfl rfl hzs hsz v n vs m2 ad m c us (by omega) hnews f3 (by simp only[maxLen];omega) hbytes (ze _);exact⟨v',w',r1,r2,r3,r5⟩
 obtain⟨v',w',r1,r2,r3,r4⟩:=hrun;obtain⟨G',s1,s2,s3,s4⟩:=Jf hin hmem b _ _ g' n (n+m) xs (xs++ys) v v' (vs++us) hb k1 r3 r2 (Ac.append m3 f2) (by
  intro u hu;rcases zw.1 hu with hu|hu;exact m4 u hu;exact f3 u hu) r4
 refine CK (y:=v') (w':=w') ?_ (hn _ _ _ _ _ _ h s1 (Ak.le.refl I) s2 s3 s4);unfold execOp;rw[ho];simp only[resolve,invoke,builtin,Sem.run_bind,Sem.run_pure,Result.andThen_ok,xv,zr,qf,hv,f1];rw[r1];rfl
theorem WY (T ty:TypeId) (x y:Operand) (e:TypeId) (i:TypeInfo) (z:Value) (hu:P.underlying T=some (.slice e)) (hi:P.info? e=some i) (hz:i.zero=some z) (hzs:z.cells.size=i.size) (hsz:0<i.size)
  (m:Nat) (ys:List AV) (hx:(Ad x).ev tm=.nil) (hy:Dk objs ((Ad y).ev tm)=some (m,ys)) (hm:ys.length=m*i.size) (hbytes:m*i.bytes<=140737488355328) (hmax:m<=140737488355328)
  (h:K (objs++[.orow e i.size 0 m ys]) (.orow objs.length 0)):AA P C (.call { callee:=.builtin .append,args:=#[x,y],argTypes:=#[T,T] }) ty objs tm K:=by
 intro G I a w hin hmem hd o next Q ho ht hn;have hv:=Aq hd x;rw[hx] at hv;simp only[Ab] at hv;have m2:w.ownsRow 0 e i.size (.slice none 0 0) 0 []:=World.ownsRow_nil w 0 e _;obtain⟨q,c,us,f1,f2,f3,f4⟩:=KF hmem hy (Aq hd y);have hl:=f2.length;have hrun:∃v' w',(Builtin.append_ #[T,T] o.type #[.slice none 0 0,.slice q m c]).run P w=.ok v' w'/\w'.ownsRow 0 e i.size v' m us/\w.grownBy w' none/\(v'.ownBlock=none\/v'.ownBlock=some w.heap.size):=by
  cases q with
  | none=>
   have hus:us=[]:=by
    cases us with
    | nil=>rfl
    | cons u us=>obtain⟨g,off,e,_⟩:=f4 0 u rfl;cases e
   subst hus;have hm0:m=0:=by
    rcases jm m with h0|h0
    ·exact h0
    ·have:=Nat.mul_pos h0 hsz;simp at hl;rw[hl] at hm;simp at hm;omega
   subst hm0;exact⟨_,w,UG w 0 T _ e i i.size hu hi _ 0 [] m2 c,m2,World.grownBy.refl w _,.inl rfl⟩
  | some ad=>
   have hnews:∀j u,us[j]? = some u->w.cell? (ad.add j)=some u:=by
    intro j u hj;obtain⟨g,off,e2,hI⟩:=f4 j u hj;injection e2 with e2;subst e2
    rw[B9];exact hI
   obtain⟨v',w',r1,r2,r3,_,r5⟩:=run_append_own_at (P:=P) w 0 T o.type e i z i.size i.bytes hu hi hz rfl rfl hzs hsz (.slice none 0 0) 0 [] m2 ad m c us (by omega) hnews f3 (by simp only[maxLen];omega) (by simpa using hbytes) (ze _);exact⟨v',w',r1,by simpa using r2,r3,r5⟩
 obtain⟨v',w',r1,r2,r3,r4⟩:=hrun;obtain⟨G',s1,s2,s3,s4⟩:=GH hin hmem r3 e i.size m ys v' us r2 f2 f3 (by
  intro k hk;rcases r4 with r4|r4
  ·rw[r4] at hk;cases hk
  ·rw[r4] at hk;injection hk with hk;omega)
 refine CK (y:=v') (w':=w') ?_ (hn _ _ _ _ _ _ h s1 (Ak.le.refl I) s2 s3 s4);unfold execOp;rw[ho];simp only[resolve,invoke,builtin,Sem.run_bind,Sem.run_pure,Result.andThen_ok,xv,zr,qf,hv,f1];rw[r1];rfl
theorem Wm (T ty:TypeId) (x y:Operand) (e:TypeId) (i:TypeInfo) (z:Value) (hu:P.underlying T=some (.slice e)) (hi:P.info? e=some i) (hz:i.zero=some z) (hsz:0<i.size)
  (n m:Nat) (xs ys:List AV) (hx:(Ad x).ev tm=.crow n xs) (hy:Dk objs ((Ad y).ev tm)=some (m,ys)) (hm:ys.length=m*i.size) (hxl:xs.length=n*i.size) (h0:0<m) (hbytes:(n+m)*i.bytes<=140737488355328) (hmax:n+m<=140737488355328)
  (h:K objs (.row (n+m) (xs++ys))):AA P C (.call { callee:=.builtin .append,args:=#[x,y],argTypes:=#[T,T] }) ty objs tm K:=by
 intro G I a w hin hmem hd o next Q ho ht hn;have e1:=Aq hd x;rw[hx] at e1;simp only[Ab] at e1;obtain⟨q0,vs,v1,v2,v3,v4,v5⟩:=e1;obtain⟨q,c,us,f1,f2,f3,f4⟩:=KF hmem hy (Aq hd y);have hl:=f2.length;have hvl:=v3.length;have hpos:0<us.length:=by rw[<-hl,hm];exact Nat.mul_pos h0 hsz
 obtain⟨ad,rfl⟩:∃ad,q=some ad:=by
  obtain⟨g,off,e,_⟩:=f4 0 us[0] (zq hpos);exact⟨_,e⟩
 have hnews:∀j u,us[j]? = some u->w.cell? (ad.add j)=some u:=by
  intro j u hj;obtain⟨g,off,e2,hI⟩:=f4 j u hj;injection e2 with e2;subst e2
  rw[B9];exact hI
 have h63:n+m<=9223372036854775807:=by omega
 have hrun:∃c' cells,(Builtin.append_ #[T,T] o.type #[.slice q0 n n,.slice (some ad) m c]).run P w=.ok (.slice (some ⟨w.heap.size,0,none⟩) (n+m) c') (w.drew.alloc (.cells cells e))/\n+m<=c'/\∀(j:Nat) (u:Value),(vs++us)[j]? = some u->cells[j]? = some u:=by
  cases q0 with
  | none=>
   have hvs:vs=[]:=by
    cases vs with
    | nil=>rfl
    | cons u us=>obtain⟨g,off,e,_⟩:=v5 0 u rfl;cases e
   subst hvs;have hn0:n=0:=by
    rcases jm n with h1|h1
    ·exact h1
    ·have:=Nat.mul_pos h1 hsz;simp at hvl;rw[hvl] at hxl;simp at hxl;omega
   subst hn0;have hr:=run_append_nil (P:=P) w T o.type e i z hu hi hz ad m c us (by omega) hnews h0 (by omega) (by have hb:=hbytes;simp only[zz] at hb;omega);refine⟨_,_,by rw[zz];exact hr,by rw[zz];exact grownCap_ge w m 0 e,fun j u hj=>?_⟩;rw[qn] at hj;rw[Array.getElem?_append_left (by have:=(jf.1 hj).1;simpa using this)];simpa using hj
  | some b=>
   have holds:∀j v,vs[j]? = some v->w.cell? (b.add j)=some v:=by
    intro j u hj;obtain⟨g,off,e2,hI⟩:=v5 j u hj;injection e2 with e2;subst e2
    rw[B9];exact hmem.imm _ _ _ hI
   have hr:=run_append_grow (P:=P) w T o.type e i z hu hi hz b n n vs (by omega) holds ad m c us (by omega) hnews (by omega) (by omega) (growslice_fits (by omega) hbytes);refine⟨_,_,hr,grownCap_ge w (n+m) n e,fun j u hj=>?_⟩;rw[Array.getElem?_append_left (by have:=(jf.1 hj).1;simpa using this)];simpa using hj
 obtain⟨c',cells,r1,r2,r3⟩:=hrun;obtain⟨I',s1,s2,s3,s4⟩:=NN hin hmem (w':=w.drew.alloc (.cells cells e)) ⟨rfl,rfl,rfl,by simp,fun k hk _=>heap_alloc_old w.drew _ hk⟩ w.heap.size (n+m) c' (xs++ys) (vs++us) (zd _) r2 (Ac.append v3 f2) (by
  intro u hu;rcases zw.1 hu with hu|hu;exact v4 u hu;exact f3 u hu) (fun j u hj=>by
  have h9:(w.drew.alloc (.cells cells e)).cell? ⟨w.heap.size,j,none⟩=_:=World.cell?_alloc_new w.drew cells e j;rw[h9];exact r3 j u hj)
 refine CK (y:=.slice (some ⟨w.heap.size,0,none⟩) (n+m) c') (w':=w.drew.alloc (.cells cells e)) ?_ (hn _ _ _ _ _ _ h (Gh.le.refl G) s1 s2 s3 s4);unfold execOp;rw[ho];simp only[resolve,invoke,builtin,Sem.run_bind,Sem.run_pure,Result.andThen_ok,xv,zr,qf,v1,f1];rw[r1];rfl
theorem Yi (T ty:TypeId) (x y:Operand) (e:TypeId) (i:TypeInfo) (z:Value) (hu:P.underlying T=some (.slice e)) (hi:P.info? e=some i) (hz:i.zero=some z) (hzs:z.cells.size=i.size) (hsz:0<i.size)
  (n m:Nat) (xs ys:List AV) (hx:(Ad x).ev tm=.crow n xs) (hy:Dk objs ((Ad y).ev tm)=some (m,ys)) (hm:ys.length=m*i.size) (hxl:xs.length=n*i.size) (h0:0<m) (hbytes:(n+m)*i.bytes<=140737488355328) (hmax:n+m<=140737488355328)
  (h:K (objs++[.orow e i.size 0 (n+m) (xs++ys)]) (.orow objs.length 0)):AA P C (.call { callee:=.builtin .append,args:=#[x,y],argTypes:=#[T,T] }) ty objs tm K:=by
 intro G I a w hin hmem hd o next Q ho ht hn;have e1:=Aq hd x;rw[hx] at e1;simp only[Ab] at e1;obtain⟨q0,vs,v1,v2,v3,v4,v5⟩:=e1;obtain⟨q,c,us,f1,f2,f3,f4⟩:=KF hmem hy (Aq hd y);have hl:=f2.length;have hvl:=v3.length;have hpos:0<us.length:=by rw[<-hl,hm];exact Nat.mul_pos h0 hsz
 obtain⟨ad,rfl⟩:∃ad,q=some ad:=by
  obtain⟨g,off,e,_⟩:=f4 0 us[0] (zq hpos);exact⟨_,e⟩
 have hnews:∀j u,us[j]? = some u->w.cell? (ad.add j)=some u:=by
  intro j u hj;obtain⟨g,off,e2,hI⟩:=f4 j u hj;injection e2 with e2;subst e2
  rw[B9];exact hI
 have h63:n+m<=9223372036854775807:=by omega
 have grown:∀(old:Nat),old<n+m ->
   (w.drew.alloc (.cells (vs.toArray++us.toArray++Builtin.zeroCells z.cells (grownCap w (n+m) old e - (n+m))) e)).ownsRow 0 e i.size
    (.slice (some ⟨w.heap.size,0,none⟩) (n+m) (grownCap w (n+m) old e)) (n+m) (vs++us) /\
   w.grownBy (w.drew.alloc (.cells (vs.toArray++us.toArray++Builtin.zeroCells z.cells (grownCap w (n+m) old e - (n+m))) e)) none:=by
  intro old ho;have hlen:(vs++us).length=(n+m)*i.size:=by rw[zg,<-hvl,hxl,<-hl,hm,Nat.add_mul]
  have hge:=grownCap_ge w (n+m) old e;have hcm:grownCap w (n+m) old e<=maxLen:=grownCap_le_maxLen w (n+m) old e (by simp only[maxLen];omega);refine⟨⟨hlen,.inr ⟨w.heap.size,_,_,rfl,ze _,heap_alloc_new w.drew _,hge,hcm,?_,?_⟩⟩,⟨rfl,rfl,rfl,by simp,fun k hk _=>heap_alloc_old w.drew _ hk⟩⟩
  ·have e1:vs.length+us.length=(n+m)*i.size:=by rw[<-zg];exact hlen
   simp only[Array.size_append,xo,size_zeroCells,hzs,e1,<-Nat.add_mul]
   congr 1
   omega
  ·simp only[Array.toList_append,zu];rw[<-zu,<-hlen];exact List.take_left
 have hrun:∃v' w',(Builtin.append_ #[T,T] o.type #[.slice q0 n n,.slice (some ad) m c]).run P w=.ok v' w'/\w'.ownsRow 0 e i.size v' (n+m) (vs++us)/\w.grownBy w' none/\v'.ownBlock=some w.heap.size:=by
  cases q0 with
  | none=>
   have hvs:vs=[]:=by
    cases vs with
    | nil=>rfl
    | cons u us=>obtain⟨g,off,e,_⟩:=v5 0 u rfl;cases e
   subst hvs;have hn0:n=0:=by
    rcases jm n with h1|h1
    ·exact h1
    ·have:=Nat.mul_pos h1 hsz;simp at hvl;rw[hvl] at hxl;simp at hxl;omega
   subst hn0;have hr:=run_append_nil (P:=P) w T o.type e i z hu hi hz ad m c us (by omega) hnews h0 (by omega) (by have hb:=hbytes;simp only[zz] at hb;omega);have hgr:=grown 0 (by omega);simp only[qn,zz] at hgr hr ⊢;exact⟨_,_,hr,by simpa using hgr.1,by simpa using hgr.2,rfl⟩
  | some b=>
   have holds:∀j v,vs[j]? = some v->w.cell? (b.add j)=some v:=by
    intro j u hj;obtain⟨g,off,e2,hI⟩:=v5 j u hj;injection e2 with e2;subst e2
    rw[B9];exact hmem.imm _ _ _ hI
   have hr:=run_append_grow (P:=P) w T o.type e i z hu hi hz b n n vs (by omega) holds ad m c us (by omega) hnews (by omega) (by omega) (growslice_fits (by omega) hbytes);exact⟨_,_,hr,(grown n (by omega)).1,(grown n (by omega)).2,rfl⟩
 obtain⟨v',w',r1,r2,r3,r4⟩:=hrun;obtain⟨G',s1,s2,s3,s4⟩:=GH hin hmem r3 e i.size (n+m) (xs++ys) v' (vs++us) r2 (Ac.append v3 f2) (by
  intro u hu;rcases zw.1 hu with hu|hu;exact v4 u hu;exact f3 u hu) (by
  intro k hk;rw[r4] at hk;injection hk with hk;omega)
 refine CK (y:=v') (w':=w') ?_ (hn _ _ _ _ _ _ h s1 (Ak.le.refl I) s2 s3 s4);unfold execOp;rw[ho];simp only[resolve,invoke,builtin,Sem.run_bind,Sem.run_pure,Result.andThen_ok,xv,zr,qf,v1,f1];rw[r1];rfl
theorem WZ (T U ty:TypeId) (x y:Operand) (e:TypeId) (i:TypeInfo) (hu:P.underlying T=some (.slice e)) (hus:P.underlying U=some .string) (hi:P.info? e=some i) (hz:i.zero=some (.int .u8 0)) (hsize:i.size=1) (hby:i.bytes=1)
  (b gen n:Nat) (xs:List AV) (l:List UInt8) (hx:(Ad x).ev tm=.orow b gen) (hb:objs[b]? = some (.orow e 1 gen n xs)) (hy:(Ad y).ev tm=.s l) (hbytes:n+l.length<=140737488355328)
  (h:K (objs.set b (.orow e 1 (gen+1) (n+l.length) (xs++Bf l))) (.orow b (gen+1))):AA P C (.call { callee:=.builtin .append,args:=#[x,y],argTypes:=#[T,U] }) ty objs tm K:=by
 intro G I a w hin hmem hd o next Q ho ht hn;have e1:=Aq hd x;rw[hx] at e1;simp only[Ab] at e1;obtain⟨g',v,k1,k2,k3,_⟩:=e1;obtain⟨v',vs,m1,m2,m3,m4,m5⟩:=hmem.row b _ _ gen n xs hb;rw[k1] at m1;injection m1 with m1;injection m1 with m1 m6
 have hv:=k3 m1.symm;subst m1 m6;have e2:=Aq hd y;rw[hy] at e2;simp only[Ab] at e2;obtain⟨v',w',r1,r2,r3,r4⟩:=UH (P:=P) w T U o.type e i hu hus hi hz hsize hby v n vs m2 ⟨l.toArray⟩ (by rw[FX];exact hbytes);rw[FX,TY] at r2;obtain⟨G',s1,s2,s3,s4⟩:=Jf hin hmem b _ _ g' n (n+l.length) xs (xs++Bf l) v v' _ hb k1 r3 r2 (Ac.append m3 (Nm G I l)) (by
  intro u hu;rcases zw.1 hu with hu|hu;exact m4 u hu;exact Qz l u hu) r4
 refine CK (y:=v') (w':=w') ?_ (hn _ _ _ _ _ _ h s1 (Ak.le.refl I) s2 s3 s4);unfold execOp;rw[ho];simp only[resolve,invoke,builtin,Sem.run_bind,Sem.run_pure,Result.andThen_ok,xv,zr,qf,hv,e2];rw[r1];rfl
theorem Yg (T U ty:TypeId) (x y:Operand) (e:TypeId) (i:TypeInfo) (hu:P.underlying T=some (.slice e)) (hus:P.underlying U=some .string) (hi:P.info? e=some i) (hz:i.zero=some (.int .u8 0)) (hsize:i.size=1) (hby:i.bytes=1)
  (l:List UInt8) (hx:(Ad x).ev tm=.nil) (hy:(Ad y).ev tm=.s l) (hbytes:l.length<=140737488355328)
  (h:K (objs++[.orow e 1 0 l.length (Bf l)]) (.orow objs.length 0)):AA P C (.call { callee:=.builtin .append,args:=#[x,y],argTypes:=#[T,U] }) ty objs tm K:=by
 intro G I a w hin hmem hd o next Q ho ht hn;have hv:=Aq hd x;rw[hx] at hv;simp only[Ab] at hv;have e2:=Aq hd y;rw[hy] at e2;simp only[Ab] at e2;obtain⟨v',w',r1,r2,r3,r4⟩:=UH (P:=P) w T U o.type e i hu hus hi hz hsize hby (.slice none 0 0) 0 [] (World.ownsRow_nil w 0 e _) ⟨l.toArray⟩ (by rw[FX];omega);rw[FX,TY,zz,qn] at r2;obtain⟨G',s1,s2,s3,s4⟩:=GH hin hmem r3 e 1 l.length (Bf l) v' _ r2 (Nm G I l) (Qz l) (by
  intro k hk;rcases r4 with r4|r4
  ·rw[r4] at hk;cases hk
  ·rw[r4] at hk;injection hk with hk;omega)
 refine CK (y:=v') (w':=w') ?_ (hn _ _ _ _ _ _ h s1 (Ak.le.refl I) s2 s3 s4);unfold execOp;rw[ho];simp only[resolve,invoke,builtin,Sem.run_bind,Sem.run_pure,Result.andThen_ok,xv,zr,qf,hv,e2];rw[r1];rfl
theorem Px (T:TypeId) (x y:Operand) (e:TypeId) (i:TypeInfo) (z:Value) (hu:P.underlying T=some (.slice e)) (hi:P.info? e=some i) (hz:i.zero=some z) (kl kc:IntKind) (c:Int)
  (hx:(Ad x).ev tm=.i kl 0) (hy:(Ad y).ev tm=.i kc c) (h0:0<=c) (hbytes:(i.bytes:Int)*c<=281474976710656) (hmax:c<=140737488355328)
  (h:K (objs++[.orow e i.size 0 0 []]) (.orow objs.length 0)):AA P C (.makeSlice T x y) type objs tm K:=by
 intro G I a w hin hmem hd o next Q ho ht hn;have e1:=Aq hd x;rw[hx] at e1;simp only[Ab] at e1;have e2:=Aq hd y;rw[hy] at e2;simp only[Ab] at e2;have hc:((c.toNat:Nat):Int)=c:=Int.toNat_of_nonneg h0;have hb:i.bytes*c.toNat<=281474976710656:=by
  have:((i.bytes*c.toNat:Nat):Int)<=281474976710656:=by rw[Int.natCast_mul,hc];exact hbytes
  omega
 obtain⟨w',r1,r2,r3⟩:=run_make_own (P:=P) w 0 T e i z i.size hu hi hz rfl kl kc c.toNat hb (by simp only[maxLen];omega) (ze _);rw[hc] at r1;obtain⟨G',s1,s2,s3,s4⟩:=GH hin hmem r3 e i.size 0 [] _ [] r2 Ac.nil (by simp) (by
  intro k hk;have:w.heap.size=k:=by simpa[Value.ownBlock] using hk
  omega)
 refine CK (w':=w') ?_ (hn _ _ _ _ _ _ h s1 (Ak.le.refl I) s2 s3 s4);unfold execOp;rw[ho];simp[e1,e2,r1]
theorem qG (T:TypeId) (x y:Operand) (e:TypeId) (i:TypeInfo) (kd:IntKind) (z:Int) (hu:P.underlying T=some (.slice e)) (hi:P.info? e=some i) (hz:i.zero=some (.int kd z)) (hs:i.size=1) (kl:IntKind) (c:Int)
  (hx:(Ad x).ev tm=.i kl c) (hy:(Ad y).ev tm=.i kl c) (h0:0<=c) (hbytes:(i.bytes:Int)*c<=281474976710656) (hmax:c<=140737488355328)
  (h:K (objs++[.orow e 1 0 c.toNat (qo c.toNat (.i kd z))]) (.orow objs.length 0)):AA P C (.makeSlice T x y) type objs tm K:=by
 intro G I a w hin hmem hd o next Q ho ht hn;have e1:=Aq hd x;rw[hx] at e1;simp only[Ab] at e1;have e2:=Aq hd y;rw[hy] at e2;simp only[Ab] at e2;have hc:((c.toNat:Nat):Int)=c:=Int.toNat_of_nonneg h0;have hb:i.bytes*c.toNat<=281474976710656:=by
  have:((i.bytes*c.toNat:Nat):Int)<=281474976710656:=by rw[Int.natCast_mul,hc];exact hbytes
  omega
 have r1:=run_make_row (P:=P) T e i (.int kd z) hu hi hz hs rfl kl kl c.toNat hb (by omega) w;rw[hc] at r1;have hrow:=World.rowIs_made w (.int kd z) c.toNat e;have r2:(w.alloc (.cells (madeCells #[Value.int kd z] c.toNat) e)).ownsRow 0 e 1 (.slice (some ⟨w.heap.size,0,none⟩) c.toNat c.toNat) c.toNat (qo c.toNat (Value.int kd z)):=by
  refine⟨by rw[List.length_replicate,qt],.inr ⟨w.heap.size,c.toNat,madeCells #[Value.int kd z] c.toNat,rfl,ze _,Go.Deep.blk_alloc_new _ _,zd _,by simp only[maxLen];omega,by rw[size_madeCells,qt],?_⟩⟩;rw[qt]
  apply List.ext_getElem
  ·rw[zh,List.length_replicate,Array.length_toList,size_madeCells];omega
  ·intro j h1 h2;rw[List.getElem_take,List.getElem_replicate];simp[madeCells,Nat.mod_one]
 have hd2:∀n:Nat,Ac G I (qo n (.i kd z)) (qo n (Value.int kd z)):=by
  intro n
  induction n with
  | zero=>exact Ac.nil
  | succ n ih=>rw[List.replicate_succ,List.replicate_succ];exact Ac.cons (by simp[Ab]) ih
 obtain⟨G',s1,s2,s3,s4⟩:=GH hin hmem (World.grownBy_alloc w (.cells (madeCells #[Value.int kd z] c.toNat) e) none) e 1 c.toNat (qo c.toNat (.i kd z)) _ _ r2 (hd2 _) (by intro u hu;rw[(List.mem_replicate.1 hu).2];rfl) (by
  intro k hk;have:w.heap.size=k:=by simpa[Value.ownBlock] using hk
  omega)
 refine CK (w':=w.alloc (.cells (madeCells #[Value.int kd z] c.toNat) e)) ?_ (hn _ _ _ _ _ _ h s1 (Ak.le.refl I) s2 s3 s4);unfold execOp;rw[ho];simp[e1,e2,r1]
theorem KN (src dst:TypeId) (x:Operand) (e:TypeId) (l:List UInt8) (hs:P.underlying src=some (.slice e)) (he:P.underlying e=some (.int .u8)) (hu:P.underlying dst=some .string)
  (hx:(∃b gen E n,(Ad x).ev tm=.orow b gen/\objs[b]? = some (.orow E 1 gen n (Bf l)))\/(∃n,(Ad x).ev tm=.row n (Bf l)/\n=l.length)\/((Ad x).ev tm=.nil/\l=[])\/(∃b off n T cs,(Ad x).ev tm=.bsl b off n/\objs[b]? = some (.box T cs)/\(cs.drop off).take n=Bf l/\l.length=n)) (h:K objs (.s l)):AA P C (.convert src dst x) type objs tm K :=
 A9 _ h fun G I a w hm hd o ho ht=>by
  have e1:=Aq hd x;refine⟨.string ⟨l.toArray⟩,?_,by simp[Ab]⟩;have key:(∃c,a.eval x=.slice none l.length c/\l=[])\/(∃(ad:Addr) (c:Nat),a.eval x=.slice (some ad) l.length c/\∀j (hj:j<l.length),w.cell? (ad.add j)=some (.int .u8 (l[j].toNat:Int))):=by
   rcases hx with ⟨b,gen,E,n,hx,hb⟩|⟨n,hx,rfl⟩|⟨hx,rfl⟩|⟨b,off,n,T,cs,hx,hb,hcs,hln⟩
   ·rw[hx] at e1;simp only[Ab] at e1;obtain⟨g',v,k1,k2,k3,_⟩:=e1;obtain⟨v',vs,m1,m2,m3,m4,m5⟩:=hm.row b _ _ gen n _ hb;rw[k1] at m1;injection m1 with m1;injection m1 with m1 m6
    have hv:=k3 m1.symm;subst m1 m6;have hvs:=JR m3;have hn:n=l.length:=by
     have:=m2.1;rw[hvs] at this;simpa using this.symm
    subst hn;rcases m2.2 with ⟨rfl,h0⟩|⟨g,cap,cur,rfl,_,hg,hnc,hcm,hcs,htake⟩
    ·have:l=[]:=qh h0;subst this;exact .inl ⟨0,hv,rfl⟩
    ·refine .inr ⟨⟨g,0,none⟩,cap,hv,fun j hj=>?_⟩;have:=m2.cells (g:=g) rfl j (.int .u8 (l[j].toNat:Int)) (by rw[hvs];simp[hj]);exact this
   ·rw[hx] at e1;simp only[Ab] at e1;obtain⟨q,c,ys,h1,h2,h3,h4,h5⟩:=e1;have hys:=JR h3
    cases l with
    | nil=>
     cases q with
     | none=>exact .inl ⟨c,by simpa using h1,rfl⟩
     | some ad=>exact .inr ⟨ad,c,by simpa using h1,by simp⟩
    | cons d l=>
     obtain⟨g,off,e2,_⟩:=h5 0 (.int .u8 (d.toNat:Int)) (by rw[hys];rfl);subst e2;refine .inr ⟨⟨g,off,none⟩,c,h1,fun j hj=>?_⟩;obtain⟨g',off',e2,hI⟩:=h5 j (.int .u8 ((d::l)[j].toNat:Int)) (by rw[hys];rw[List.getElem?_map,zq hj];rfl);injection e2 with e2;injection e2 with e3 e4;subst e3 e4
     rw[B9];exact hm.imm _ _ _ hI
   ·rw[hx] at e1;simp only[Ab] at e1;exact .inl ⟨0,e1,rfl⟩
   ·rw[hx] at e1;simp only[Ab] at e1;obtain⟨g,c,k1,k2,k3⟩:=e1;obtain⟨g',ys,m1,m2,m3,m4⟩:=hm.box b T cs hb;obtain rfl:g=g':=zx.inj (k1.symm.trans m1);subst hln;refine .inr ⟨⟨g,off,none⟩,c,k2,fun j hj=>?_⟩;have hys:=JR (hcs▸Ac.take l.length (Ac.drop off m3));have h6:((ys.drop off).take l.length)[j]? = some (.int .u8 (l[j].toNat:Int)):=by rw[hys];simp[hj]
    rw[xh,if_pos hj,ju] at h6;rw[B9,cell_of_row w g (off+j) _ T (0,0) m2];simpa using h6
  unfold execOp;rw[ho];rcases key with ⟨c,hv,rfl⟩|⟨ad,c,hv,hc⟩
  ·simp[hv,run_convert_bytes_nil w src e hs he _ _ dst hu];rfl
  ·have:=run_convert_bytes_back (P:=P) w src dst e ad c l hs he hu (fun j hj=>hc j hj);simp[hv,this]
theorem WB (T:TypeId) (x hi':Operand) (e:TypeId) (i:TypeInfo) (hu:P.underlying T=some (.slice e)) (hi:P.info? e=some i) (b gen n E:Nat) (xs:List AV) (k:IntKind) (j:Int) (hx:(Ad x).ev tm=.orow b gen) (hb:objs[b]? = some (.orow E i.size gen n xs)) (hj:(Ad hi').ev tm=.i k j) (h0:0<=j) (h1:j<=n)
  (h:K (objs.set b (.orow E i.size (gen+1) j.toNat (xs.take (j.toNat*i.size)))) (.orow b (gen+1))):AA P C (.slice T x none (some hi') none) type objs tm K:=by
 intro G I a w hin hmem hd o next Q ho ht hn;have e1:=Aq hd x;rw[hx] at e1;simp only[Ab] at e1;have e2:=Aq hd hi';rw[hj] at e2;simp only[Ab] at e2;obtain⟨g',v,k1,k2,k3,_⟩:=e1;obtain⟨v',vs,m1,m2,m3,m4,m5⟩:=hmem.row b _ _ gen n xs hb;rw[k1] at m1;injection m1 with m1;injection m1 with m1 m6
 have hv:=k3 m1.symm;subst m1 m6;have hjn:j.toNat<=n:=by omega
 have hjs:j.toNat*i.size<=n*i.size:=jb _ hjn;have hvl:=m2.1;have hrun:∃v',(Instr.sliceAt T v none (some (.int k j)) none).run P w=.ok v' w/\w.ownsRow 0 E i.size v' j.toNat (vs.take (j.toNat*i.size))/\v'.ownBlock=v.ownBlock:=by
  rcases m2.2 with ⟨rfl,hn0⟩|⟨g,cap,cur,rfl,q3,q4,q5,q6,q7,q8⟩
  ·obtain rfl:j=0:=by omega
   have q1:=run_sliceBound (P:=P) w k 0 0 .sliceAcap (by omega) (by omega);refine⟨.slice none 0 0,by simp[Instr.sliceAt,Instr.slice,run_underlying hu,Instr.sliceBounds,q1,sizeOf,typeInfo,hi],?_,rfl⟩;simpa using World.ownsRow_nil w 0 E i.size
  ·have q1:=run_sliceBound (P:=P) w k j cap .sliceAcap h0 (by omega);refine⟨.slice (some ⟨g,0,none⟩) j.toNat cap,?_,⟨by rw[zh];omega,.inr ⟨g,cap,cur,rfl,q3,q4,by omega,q6,q7,?_⟩⟩,rfl⟩
   ·simp[Instr.sliceAt,Instr.slice,run_underlying hu,Instr.sliceBounds,q1,sizeOf,typeInfo,hi,B9]
   ·rw[<-q8,xp,xq hjs]
 obtain⟨v',r1,r2,r4⟩:=hrun;obtain⟨G',s1,s2,s3,s4⟩:=Jf hin hmem b _ _ g' n j.toNat xs (xs.take (j.toNat*i.size)) v v' _ hb k1 (World.grownBy.refl w _) r2 (Ac.take _ m3) (fun u hu=>m4 u (jo hu)) (.inl r4);refine CK (y:=v') (w':=w) ?_ (hn _ _ _ _ _ _ h s1 (Ak.le.refl I) s2 s3 s4);unfold execOp;rw[ho];simp[e2,hv,r1]
end
theorem TO:∀(vs:List Value) (k off:Nat) (A:Array Value),off+k+vs.length<=A.size ->
  ((vs.zipIdx k).foldl (fun cs p=>cs.setIfInBounds (off+p.2) p.1) A).toList=Cv A.toList (off+k) vs
 | [],k,off,A,h=>by simp[Cv]
 | v::vs,k,off,A,h=>by
  simp only[zl] at h;rw[List.zipIdx_cons,List.foldl_cons,TO vs (k+1) off _ (by simp;omega)];simp only[Array.toList_setIfInBounds,Cv,zl];have e1:(A.toList.set (off+k) v).take (off+(k+1))=A.toList.take (off+k)++[v]:=by
   rw[show off+(k+1)=(off+k)+1 by omega,qm (by simp;omega),List.getElem_set_self,List.take_set_of_le (zd _)]
  have e2:(A.toList.set (off+k) v).drop (off+(k+1)+vs.length)=A.toList.drop (off+k+(vs.length+1)):=by
   rw[List.drop_set_of_lt (by omega),show off+(k+1)+vs.length=off+k+(vs.length+1) by omega]
  rw[e1,e2];simp
def D7:List AV->List (Nat×Nat×AV)->Option (List AV)
 | cs,[]=>some cs
 | cs,(o,sz,v)::r=>if v.flat=true/\v.cells.length=sz/\o+sz<=cs.length then D7 (Cv cs o v.cells) r else none
theorem Jj {G:Gh} {I:Ak} {a:Act} {tm:List AV} (hd:Ac G I tm a.tmps.toList) (place:Nat->Option (Nat×Nat)):∀(parts:List (Nat×Operand)) (ps:List (Nat×Nat×SV)) (cs cs':List AV) (ys:Array Value),
  parts.mapM (fun p=>(place p.1).map fun q=>(q.1,q.2,Ad p.2))=some ps->D7 cs (ps.map fun p=>(p.1,p.2.1,p.2.2.ev tm))=some cs'->Ac G I cs ys.toList->(∀u∈ys.toList,u.oneCell'=true) ->
  ∃ys',Instr.fill place ys (parts.map fun p=>(p.1,a.eval p.2))=some ys'/\Ac G I cs' ys'.toList/\∀u∈ys'.toList,u.oneCell'=true
 | [],ps,cs,cs',ys,hp,hf,h1,h2=>by
  simp at hp;subst hp;simp only[qf,D7,zx.injEq] at hf;subst hf;exact⟨ys,rfl,h1,h2⟩
 | (i,x)::parts,ps,cs,cs',ys,hp,hf,h1,h2=>by
  simp only[List.mapM_cons,Option.bind_eq_bind,Option.pure_def] at hp
  cases hpl:place i with
  | none=>simp[hpl] at hp
  | some q=>
   obtain⟨off,sz⟩:=q
   cases hr:parts.mapM (fun p=>(place p.1).map fun q=>(q.1,q.2,Ad p.2)) with
   | none=>simp[hpl,hr] at hp
   | some rest=>
    simp[hpl,hr] at hp;subst hp;simp only[zr,D7] at hf
    split at hf
    ·rename_i hc;obtain⟨c1,c2,c3⟩:=hc;obtain⟨d1,d2⟩:=Ll (Aq hd x) c1;have l1:=d1.length;have l2:=h1.length;have hl:off+0+(a.eval x).cells.toList.length<=ys.size:=by rw[<-l1,c2];simp at l2;omega
     have hs:=TO (a.eval x).cells.toList 0 off ys hl;have hsz:(a.eval x).cells.size=sz:=by rw[<-c2,l1];simp
     have hfold:(a.eval x).cells.zipIdx.foldl (fun cs (p:Value×Nat)=>cs.setIfInBounds (off+p.2) p.1) ys=((a.eval x).cells.toList.zipIdx 0).foldl (fun cs p=>cs.setIfInBounds (off+p.2) p.1) ys:=by
      rw[<-Array.foldl_toList];simp
     simp only[Nat.add_zero] at hs;obtain⟨ys',r1,r2,r3⟩:=Jj hd place parts rest _ cs' (((a.eval x).cells.toList.zipIdx 0).foldl (fun cs p=>cs.setIfInBounds (off+p.2) p.1) ys) hr hf (by
      rw[hs];unfold Cv;rw[l1];exact Ac.append (Ac.append (Ac.take _ h1) d1) (Ac.drop _ h1)) (by
      rw[hs];intro u hu;rcases zw.1 hu with hu|hu
      ·rcases zw.1 hu with hu|hu
       ·exact h2 u (jo hu)
       ·exact d2 u hu
      ·exact h2 u (ji hu))
     refine⟨ys',?_,r2,r3⟩;simp only[zr,Instr.fill,hpl];rw[if_neg (by simp[hsz];simp at l2 hl;omega)];rw[<-r1,<-hfold]
    ·cases hf
section
variable {P:Program} {C:Cx} {type:TypeId} {objs:List OB} {tm:List AV} {K:List OB->AV->Prop}
def Ni (P:Program) (t:TypeId):Option (Nat->Option (Nat×Nat)) :=
 match P.underlying t with
 | some (.array _ e)=>(P.info? e).map fun ie i=>some (i*ie.size,ie.size)
 | some (.struct fields)=>(fields.toList.mapM (fun f=>(P.info? f.type).map fun i=>(f.offset,i.size))).map fun places=>(places.toArray[·]?)
 | _=>none
theorem Yh (t:TypeId) (parts:Array (Nat×Operand)) (it:TypeInfo) (z:Value) (hi:P.info? t=some it) (hz:it.zero=some z) (h1:(z.cells.toList.all (·.oneCell'))=true) (place:Nat->Option (Nat×Nat)) (hpl:Ni P t=some place)
  (ps:List (Nat×Nat×SV)) (hps:parts.toList.mapM (fun p=>(place p.1).map fun q=>(q.1,q.2,Ad p.2))=some ps) (cs:List AV) (hf:D7 (z.cells.toList.map DD) (ps.map fun p=>(p.1,p.2.1,p.2.2.ev tm))=some cs)
  (h:K objs (.agg cs)):AA P C (.build t parts) type objs tm K :=
 A9 _ h fun G I a w hm hd o ho ht=>by
  obtain⟨ys',r1,r2,r3⟩:=Jj hd place parts.toList ps _ cs z.cells hps hf (IH G I _) (fun u hu=>(zj.1 h1) u hu);have hb:P.built t (parts.map fun (i,x)=>(i,a.eval x)).toList=some ys':=by
   have e:(parts.map fun (i,x)=>(i,a.eval x)).toList=parts.toList.map fun p=>(p.1,a.eval p.2):=by simp
   rw[e];unfold Program.built;unfold Ni at hpl
   cases hu:P.underlying t with
   | none=>rw[hu] at hpl;cases hpl
   | some d=>
    rw[hu] at hpl
    cases d<;>simp only[reduceCtorEq] at hpl
    ·rename_i n e
     cases hie:P.info? e with
     | none=>rw[hie] at hpl;cases hpl
     | some ie=>
      rw[hie] at hpl;simp at hpl;subst hpl;simp only[hi,hz,hie];exact r1
    ·rename_i fields
     cases hp:fields.toList.mapM (fun f=>(P.info? f.type).map fun i=>(f.offset,i.size)) with
     | none=>rw[hp] at hpl;cases hpl
     | some places=>
      rw[hp] at hpl;simp only[jt,zx.injEq] at hpl;subst hpl;simp only[hi,hz,hp];exact r1
  refine⟨.agg ys',?_,by simp only[Ab];exact⟨ys'.toList,by simp,r2,r3⟩⟩;unfold execOp;rw[ho];simp only[Sem.run_bind,run_build w t _ ys' hb,Result.andThen_ok];rfl
inductive ET where
 | tb
 | ts
 | ti
 | str (fs:List (Nat×Option Nat×ET))
mutual
def Dp:ET->AV->AV->Option Bool
 | .ts,.s l,.s m=>some (decide (l=m))
 | .ti,.i k x,.i k' y=>if k=k' then some (decide (x=y)) else none
 | .tb,.b x,.b y=>some (x==y)
 | .str fs,.agg xs,.agg ys=>Fc fs xs ys
 | _,_,_=>none
def Fc:List (Nat×Option Nat×ET)->List AV->List AV->Option Bool
 | [],_,_=>some true
 | (o,none,e)::fs,xs,ys=>
  match xs[o]?,ys[o]? with
  | some x,some y=>match Dp e x y,Fc fs xs ys with
   | some p,some q=>some (p&&q)
   | _,_=>none
  | _,_=>none
 | (o,some n,e)::fs,xs,ys=>
  match Dp e (.agg ((xs.drop o).take n)) (.agg ((ys.drop o).take n)),Fc fs xs ys with
  | some p,some q=>some (p&&q)
  | _,_=>none
end
def Ie (P:Program) (rc:TypeId->Option ET):List Field->Option (List (Nat×Option Nat×ET))
 | []=>some []
 | f::fs=>match P.underlying f.type,P.info? f.type,rc f.type,Ie P rc fs with
  | some u, some i, some e, some r => if f.name = "_" then none else some ((f.offset, if u.isRow = true then some i.size else none, e) :: r)
  | _,_,_,_=>none
def Gm (P:Program):Nat->TypeId->Option ET
 | 0,_=>none
 | d+1,t=>match P.underlying t with
  | some .bool=>some .tb
  | some .string=>some .ts
  | some (.int _)=>some .ti
  | some (.struct fs)=>if P.stoodInHeld t=false then (Ie P (Gm P d) fs.toList).map .str else none
  | _=>none
end
theorem RL {P:Program} {G:Gh} {I:Ak} (w:World) (f:Field) (u:TypeDesc) (i:TypeInfo) (hu:P.underlying f.type=some u) (hi:P.info? f.type=some i) {xs:List AV} {ys:List Value} (hd:Ac G I xs ys) (h1:∀u∈ys,u.oneCell'=true) :
  (u.isRow=true->∃y,(part f.type ys.toArray f.offset).run P w=.ok y w/\Ab G I (.agg ((xs.drop f.offset).take i.size)) y) /\
  (u.isRow=false->∀x,xs[f.offset]? = some x->∃y,(part f.type ys.toArray f.offset).run P w=.ok y w/\Ab G I x y):=by
 refine⟨fun hr=>?_,fun hr x hx=>?_⟩
 ·have e:(ys.toArray.extract f.offset (f.offset+i.size))=((ys.drop f.offset).take i.size).toArray:=by
   apply Array.ext'
   simp[List.extract_eq_take_drop]
  refine⟨.agg ((ys.drop f.offset).take i.size).toArray,?_,?_⟩
  ·simp[part,JF hu,hr,sizeOf,typeInfo,hi]
  ·simp only[Ab];exact⟨_,rfl,Ac.take i.size (Ac.drop _ hd),fun u hu=>h1 u (ji (jo hu))⟩
 ·obtain⟨y,hy,hyd⟩:=Ac.get f.offset hd hx;exact⟨y,by simp[part,JF hu,hr,hy],hyd⟩
theorem Qg {P:Program} {G:Gh} {I:Ak} (w:World) (d:Nat) (ih:∀(t:TypeId) (e:ET) (x y:AV) (r:Bool) (u v:Value),Gm P d t=some e->Dp e x y=some r->Ab G I x u->Ab G I y v->(Op.equalIn d t u v).run P w=.ok r w) (xs ys:List AV) (us vs:List Value)
  (hx:Ac G I xs us) (hy:Ac G I ys vs) (hu:∀u∈us,u.oneCell'=true) (hv:∀u∈vs,u.oneCell'=true):∀(fs:List Field) (es:List (Nat×Option Nat×ET)) (r:Bool),Ie P (Gm P d) fs=some es->Fc es xs ys=some r->(Op.eqFields d us.toArray vs.toArray fs).run P w=.ok r w
 | [],es,r,ht,hr=>by
  simp[Ie] at ht;subst ht;simp[Fc] at hr;subst hr;simp[Op.eqFields]
 | f::fs,es,r,ht,hr=>by
  unfold Ie at ht
  split at ht
  ·rename_i td i e res htd hi he hres
   split at ht
   ·cases ht
   ·rename_i hname;injection ht with ht;subst ht
    have hp1:=RL w f td i htd hi hx hu;have hp2:=RL w f td i htd hi hy hv;have key:∃p q,r=(p&&q)/\Fc res xs ys=some q/\∃a b,(part f.type us.toArray f.offset).run P w=.ok a w/\(part f.type vs.toArray f.offset).run P w=.ok b w/\(Op.equalIn d f.type a b).run P w=.ok p w:=by
     rcases hrow:td.isRow with _|_
     ·rw[hrow] at hr;simp only[Bool.false_eq_true,if_false,Fc] at hr
      split at hr
      ·rename_i x y h1 h2
       split at hr
       ·rename_i p q h3 h4;obtain⟨a,a1,a2⟩:=hp1.2 hrow x h1;obtain⟨b,b1,b2⟩:=hp2.2 hrow y h2;exact⟨p,q,(zx.inj hr).symm,h4,a,b,a1,b1,ih _ _ _ _ _ _ _ he h3 a2 b2⟩
       ·cases hr
      ·cases hr
     ·rw[hrow] at hr;simp only[if_true,Fc] at hr
      split at hr
      ·rename_i p q h3 h4;obtain⟨a,a1,a2⟩:=hp1.1 hrow;obtain⟨b,b1,b2⟩:=hp2.1 hrow;exact⟨p,q,(zx.inj hr).symm,h4,a,b,a1,b1,ih _ _ _ _ _ _ _ he h3 a2 b2⟩
      ·cases hr
    obtain⟨p,q,rfl,hq,a,b,a1,b1,ab⟩:=key;have hrec:=Qg w d ih xs ys us vs hx hy hu hv fs res q hres hq;unfold Op.eqFields;rw[if_pos hname]
    cases p
    ·simp[Sem.run_bind,a1,b1,ab]
    ·simp[Sem.run_bind,a1,b1,ab,hrec]
  ·cases ht
theorem nM {P:Program} {G:Gh} {I:Ak} (w:World):∀(d:Nat) (t:TypeId) (e:ET) (x y:AV) (r:Bool) (u v:Value),Gm P d t=some e->Dp e x y=some r->Ab G I x u->Ab G I y v->(Op.equalIn d t u v).run P w=.ok r w:=by
 intro d
 induction d with
 | zero=>intro t e x y r u v ht;simp[Gm] at ht
 | succ d ih=>
  intro t e x y r u v ht hr hx hy;unfold Gm at ht
  split at ht
  ·rename_i hu;injection ht with ht;subst ht
   cases x<;>(try (cases y<;>simp only[Dp,reduceCtorEq] at hr;done))
   rename_i l
   cases y<;>(try (simp only[Dp,reduceCtorEq] at hr;done))
   rename_i m;simp only[Ab] at hx hy;subst hx hy;injection hr with hr;subst hr
   exact run_equalIn_bool w d t _ _ hu
  ·rename_i hu;injection ht with ht;subst ht
   cases x<;>(try (cases y<;>simp only[Dp,reduceCtorEq] at hr;done))
   rename_i l
   cases y<;>(try (simp only[Dp,reduceCtorEq] at hr;done))
   rename_i m;simp only[Ab] at hx hy;subst hx hy;injection hr with hr;subst hr
   have:=run_equalIn_string (P:=P) w d t ⟨l.toArray⟩ ⟨m.toArray⟩ hu;rw[this,ByteArray.toList_eq,ByteArray.toList_eq]
   congr 1
   by_cases hh:l=m<;>simp[hh]
  ·rename_i k hu;injection ht with ht;subst ht
   cases x<;>(try (cases y<;>simp only[Dp,reduceCtorEq] at hr;done))
   rename_i k1 x
   cases y<;>(try (simp only[Dp,reduceCtorEq] at hr;done))
   rename_i k2 y;simp only[Ab] at hx hy;subst hx hy;simp only[Dp] at hr
   split at hr
   ·rename_i hk;subst hk;injection hr with hr;subst hr
    have:=run_equalIn_int (P:=P) w d t k1 k x y hu;rw[this,OL]
   ·cases hr
  ·rename_i fs hu
   split at ht
   ·rename_i hp
    cases hes:Ie P (Gm P d) fs.toList with
    | none=>rw[hes] at ht;cases ht
    | some es=>
     rw[hes] at ht;injection ht with ht;subst ht
     unfold Dp at hr
     split at hr<;>simp only[reduceCtorEq,ET.str.injEq] at *
     rename_i es' xs ys he;subst he;simp only[Ab] at hx hy;obtain⟨us,rfl,hx1,hx2⟩:=hx;obtain⟨vs,rfl,hy1,hy2⟩:=hy;have hf:P.fieldsOf t=fs:=by simp[Program.fieldsOf,hu]
     rw[run_equalIn_struct w d t _ _ (by rw[hf];exact hu) hp,hf];exact Qg w d ih xs ys us vs hx1 hy1 hx2 hy2 fs.toList es r hes hr
   ·cases ht
  ·cases ht
section
variable {P:Program} {C:Cx} {type:TypeId} {objs:List OB} {tm:List AV} {K:List OB->AV->Prop}
theorem Pv (op:BinOp) (T T':TypeId) (x y:Operand) (et:ET) (xs ys:List AV) (r0 r:Bool) (ht:Gm P 10000 T=some et) (hg:P.eqGuardType P.depth T=false) (hx:(Ad x).ev tm=.agg xs) (hy:(Ad y).ev tm=.agg ys) (he:Dp et (.agg xs) (.agg ys)=some r0)
  (hr:(op=.eql/\r=r0)\/(op=.neq/\r=!r0)) (h:K objs (.b r)):AA P C (.binOp op T x y T') type objs tm K :=
 A9 _ h fun G I a w hm hd o ho hty=>by
  have h1:=Aq hd x;rw[hx] at h1;have h2:=Aq hd y;rw[hy] at h2;have heq:=nM (P:=P) w 10000 T et _ _ r0 _ _ ht he h1 h2;simp only[Ab] at h1 h2;obtain⟨us,e1,_⟩:=h1;obtain⟨vs,e2,_⟩:=h2;rw[e1,e2] at heq;refine⟨.bool r,?_,by simp[Ab]⟩;unfold execOp;rw[ho];have hgd:=run_eqGuard_agg (P:=P) w op T x y us.toArray vs.toArray hg;rcases hr with ⟨rfl,rfl⟩|⟨rfl,rfl⟩
  ·simp only[e1,e2,Sem.run_bind,hgd,Result.andThen_ok,run_eql_struct,heq];rfl
  ·simp only[e1,e2,Sem.run_bind,hgd,Result.andThen_ok,run_neq_struct,heq];rfl
theorem aO (t e:TypeId) (len:Nat) (parts:Array (Nat×Operand)) (ie:TypeInfo) (z:Value) (hu:P.underlying t=some (.slice e)) (hie:P.info? e=some ie) (hz:ie.zero=some z) (hsmall:¬len*ie.size > 2 ^ 24) (hpos:¬len*ie.size=0)
  (zc:List Value) (hzc:((Array.range (len*ie.size)).map (z.cells[· % z.cells.size]!)).toList=zc) (h1:(zc.all (·.oneCell'))=true)
  (ps:List (Nat×Nat×SV)) (hps:parts.toList.mapM (fun p=>((fun i=>some (i*ie.size,ie.size)) p.1:Option (Nat×Nat)).map fun q=>(q.1,q.2,Ad p.2))=some ps) (cs:List AV) (hf:D7 (zc.map DD) (ps.map fun p=>(p.1,p.2.1,p.2.2.ev tm))=some cs)
  (h:K objs (.row len cs)):AA P C (.buildSlice t len parts) type objs tm K:=by
 intro G I a w hin hmem hd o next Q ho ht hn;obtain⟨ys',r1,r2,r3⟩:=Jj hd (fun i=>some (i*ie.size,ie.size)) parts.toList ps _ cs ((Array.range (len*ie.size)).map (z.cells[· % z.cells.size]!)) hps hf (by rw[hzc];exact IH G I _) (by rw[hzc];exact fun u hu=>(zj.1 h1) u hu);obtain⟨I',s1,s2,s3,s4⟩:=Ps hin hmem e cs ys' len r2 r3;refine CK (y:=.slice (some ⟨w.heap.size,0,none⟩) len len) (w':=w.alloc (.cells ys' e)) ?_ (hn _ _ _ _ _ _ h (Gh.le.refl G) s1 s2 s3 s4);unfold execOp;rw[ho];have e2:(parts.map fun (i,x)=>(i,a.eval x)).toList=parts.toList.map fun p=>(p.1,a.eval p.2):=by simp
 have hr:=run_buildSlice (P:=P) w t e len (parts.map fun (i,x)=>(i,a.eval x)) ys' ie z hu hie hz hsmall hpos (by rw[e2];exact r1);simp only[Sem.run_bind,hr,Result.andThen_ok];rfl
theorem W5 (t e:TypeId) (len:Nat) (parts:Array (Nat×Operand)) (ie:TypeInfo) (z:Value) (hu:P.underlying t=some (.slice e)) (hie:P.info? e=some ie) (hz:ie.zero=some z) (hsmall:¬len*ie.size > 2 ^ 24) (hpos:¬len*ie.size=0)
  (zc:List Value) (hzc:((Array.range (len*ie.size)).map (z.cells[· % z.cells.size]!)).toList=zc) (h1:(zc.all (·.oneCell'))=true)
  (ps:List (Nat×Nat×SV)) (hps:parts.toList.mapM (fun p=>((fun i=>some (i*ie.size,ie.size)) p.1:Option (Nat×Nat)).map fun q=>(q.1,q.2,Ad p.2))=some ps) (cs:List AV) (hf:D7 (zc.map DD) (ps.map fun p=>(p.1,p.2.1,p.2.2.ev tm))=some cs)
  (h:K objs (.crow len cs)):AA P C (.buildSlice t len parts) type objs tm K:=by
 intro G I a w hin hmem hd o next Q ho ht hn;obtain⟨ys',r1,r2,r3⟩:=Jj hd (fun i=>some (i*ie.size,ie.size)) parts.toList ps _ cs ((Array.range (len*ie.size)).map (z.cells[· % z.cells.size]!)) hps hf (by rw[hzc];exact IH G I _) (by rw[hzc];exact fun u hu=>(zj.1 h1) u hu);obtain⟨I',s1,s2,s3,s4⟩:=Ps hin hmem e cs ys' len r2 r3;have s5:Ab G I' (.crow len cs) (.slice (some ⟨w.heap.size,0,none⟩) len len):=by
  simp only[Ab] at s4 ⊢;obtain⟨a',c,ys,q1,q2,q3,q4,q5⟩:=s4;injection q1 with e1 e2 e3
  subst e1 e3;exact⟨_,ys,rfl,q2.2,q3,q4,q5⟩
 refine CK (y:=.slice (some ⟨w.heap.size,0,none⟩) len len) (w':=w.alloc (.cells ys' e)) ?_ (hn _ _ _ _ _ _ h (Gh.le.refl G) s1 s2 s3 s5);unfold execOp;rw[ho];have e2:(parts.map fun (i,x)=>(i,a.eval x)).toList=parts.toList.map fun p=>(p.1,a.eval p.2):=by simp
 have hr:=run_buildSlice (P:=P) w t e len (parts.map fun (i,x)=>(i,a.eval x)) ys' ie z hu hie hz hsmall hpos (by rw[e2];exact r1);simp only[Sem.run_bind,hr,Result.andThen_ok];rfl
theorem Wl (t e:TypeId) (len:Nat) (parts:Array (Nat×Operand)) (ie:TypeInfo) (z:Value) (hu:P.underlying t=some (.slice e)) (hie:P.info? e=some ie) (hz:ie.zero=some z) (hsmall:¬len*ie.size > 2 ^ 24) (hpos:¬len*ie.size=0)
  (zc:List Value) (hzc:((Array.range (len*ie.size)).map (z.cells[· % z.cells.size]!)).toList=zc) (h1:(zc.all (·.oneCell'))=true)
  (ps:List (Nat×Nat×SV)) (hps:parts.toList.mapM (fun p=>((fun i=>some (i*ie.size,ie.size)) p.1:Option (Nat×Nat)).map fun q=>(q.1,q.2,Ad p.2))=some ps) (cs:List AV) (hf:D7 (zc.map DD) (ps.map fun p=>(p.1,p.2.1,p.2.2.ev tm))=some cs)
  (hcl:cs.length=len*ie.size) (h:K (objs++[.orow e ie.size 0 len cs]) (.orow objs.length 0)):AA P C (.buildSlice t len parts) type objs tm K:=by
 intro G I a w hin hmem hd o next Q ho ht hn;obtain⟨ys',r1,r2,r3⟩:=Jj hd (fun i=>some (i*ie.size,ie.size)) parts.toList ps _ cs ((Array.range (len*ie.size)).map (z.cells[· % z.cells.size]!)) hps hf (by rw[hzc];exact IH G I _) (by rw[hzc];exact fun u hu=>(zj.1 h1) u hu);have e2:(parts.map fun (i,x)=>(i,a.eval x)).toList=parts.toList.map fun p=>(p.1,a.eval p.2):=by simp
 have hr:=run_buildSlice (P:=P) w t e len (parts.map fun (i,x)=>(i,a.eval x)) ys' ie z hu hie hz hsmall hpos (by rw[e2];exact r1);have hsz:ys'.size=len*ie.size:=by
  have:=r2.length;rw[<-hcl,this];simp
 have hlen:len<=maxLen:=by
  have h1:0<ie.size:=by
   rcases jm ie.size with h|h
   ·rw[h] at hpos;simp at hpos
   ·exact h
  have h2:len*1<=len*ie.size:=Nat.mul_le_mul (zd _) h1;have h3:maxLen=2 ^ 63 - 1:=rfl;omega
 have hg:w.grownBy (w.alloc (.cells ys' e)) none:=World.grownBy_alloc w _ none;have hrow:(w.alloc (.cells ys' e)).ownsRow 0 e ie.size (.slice (some ⟨w.heap.size,0,none⟩) len len) len ys'.toList:=by
  refine⟨by simpa using hsz,.inr ⟨w.heap.size,len,ys',rfl,ze _,heap_alloc_new w _,zd _,hlen,hsz,je (by simp[hsz])⟩⟩
 obtain⟨G',s1,s2,s3,s4⟩:=GH hin hmem hg e ie.size len cs (.slice (some ⟨w.heap.size,0,none⟩) len len) ys'.toList hrow r2 r3 (by
  intro k hk;have:w.heap.size=k:=by simpa[Value.ownBlock] using hk
  omega)
 refine CK (y:=.slice (some ⟨w.heap.size,0,none⟩) len len) (w':=w.alloc (.cells ys' e)) ?_ (hn _ _ _ _ _ _ h s1 (Ak.le.refl I) s2 s3 s4);unfold execOp;rw[ho];simp only[Sem.run_bind,hr,Result.andThen_ok];rfl
theorem W6 (t e:TypeId) (len:Nat) (parts:Array (Nat×Operand)) (ie:TypeInfo) (hu:P.underlying t=some (.slice e)) (hie:P.info? e=some ie) (h0:len=0) (hp:parts.toList=[])
  (h:K (objs++[.orow e ie.size 0 0 []]) (.orow objs.length 0)):AA P C (.buildSlice t len parts) type objs tm K:=by
 subst h0;intro G I a w hin hmem hd o next Q ho ht hn;have ep:parts=#[]:=by apply Array.ext';simpa using hp
 subst ep;have hr:(Instr.buildSlice t 0 #[]).run P w=.ok (.slice (some ⟨w.heap.size,0,none⟩) 0 0) (w.alloc (.cells #[] e)):=by
  simp[Instr.buildSlice,run_underlying hu,sizeOf,typeInfo,hie,newRow,Instr.fill,show Array.range 0=#[] from rfl]
 have hg:w.grownBy (w.alloc (.cells #[] e)) none:=World.grownBy_alloc w _ none;have hrow:(w.alloc (.cells #[] e)).ownsRow 0 e ie.size (.slice (some ⟨w.heap.size,0,none⟩) 0 0) 0 []:=by
  refine⟨by simp,.inr ⟨w.heap.size,0,#[],rfl,ze _,heap_alloc_new w _,zd _,ze _,by simp,by simp⟩⟩
 obtain⟨G',s1,s2,s3,s4⟩:=GH hin hmem hg e ie.size 0 [] (.slice (some ⟨w.heap.size,0,none⟩) 0 0) [] hrow Ac.nil (by simp) (by
  intro k hk;have:w.heap.size=k:=by simpa[Value.ownBlock] using hk
  omega)
 refine CK (y:=.slice (some ⟨w.heap.size,0,none⟩) 0 0) (w':=w.alloc (.cells #[] e)) ?_ (hn _ _ _ _ _ _ h s1 (Ak.le.refl I) s2 s3 s4);unfold execOp;rw[ho];simp[hr]
class Tabs (P:Program) where
 T:World->Prop
 keep:∀w w':World,T w->(∀k,k<w.heap.size->w'.heap[k]? = w.heap[k]?)->w.heap.size<=w'.heap.size->T w'
class On (P:Program) [Tabs P] (C:Cx):Prop where
 tab:Tabs.T (P:=P) C.w
 own:∀k,¬C.own k
theorem In.tab [Tabs P] [On P C] {G:Gh} {I:Ak} {w:World} (h:In C G I w):Tabs.T (P:=P) w :=
 Tabs.keep _ _ (On.tab (P:=P) (C:=C)) (fun k hk=>h.block k hk (On.own P k)) h.size
def Ai (P:Program) [Tabs P] (f:FuncId) (args:List AV) (objs:List OB) (K:List OB->AV->Prop):Prop :=
 ∀(C:Cx) [On P C] (G:Gh) (I:Ak) (w:World),In C G I w->MemOk G I objs w->∀ys:List Value,Ac G I args ys->Calls P f ys.toArray w (fun e w'=>∃y objs' r G' I',e=.returned y/\K objs' r/\G.le G'/\Ak.le I I'/\In C G' I' w'/\MemOk G' I' objs' w'/\Ab G' I' r y)
theorem Nn {G:Gh} {I:Ak} {a:Act} (hd:Ac G I tm a.tmps.toList):∀l:List Operand,Ac G I (l.map fun x=>(Ad x).ev tm) (l.map a.eval)
 | []=>Ac.nil
 | x::l=>Ac.cons (Aq hd x) (Nn hd l)
theorem UI {f : FuncId} {fn : Func} (hf : P.funcs[f]? = some fn) (hb : fn.body.isSome = true) (hn : fn.name ≠ "runtime.NumGoroutine") (args : Array Value) (w : World) : (callFunc f args).run P w = .ok (.enter f args) w := by
 have h2:fn.body≠none:=by intro e;rw[e] at hb;cases hb
 simp[callFunc,hf,hn,h2]
theorem RK [Tabs P] [On P C] (f : FuncId) (args : Array Operand) (ats : Array TypeId) (x : Operand) (fs cs : List AV) (hx : (Ad x).ev tm = .fn f fs cs) (fn : Func) (hf : P.funcs[f]? = some fn) (hb : fn.body.isSome = true) (hn : fn.name ≠ "runtime.NumGoroutine")
  (h:Ai P f (fs++(args.toList.map fun x=>(Ad x).ev tm)++cs) objs K):AA P C (.call { callee:=.value x,args:=args,argTypes:=ats }) type objs tm K:=by
 intro G I a w hin hmem hd o next Q ho ht hnx;have h1:=Aq hd x;rw[hx] at h1;simp only[Ab] at h1;obtain⟨us,vs,e1,d1,d2⟩:=h1;have hd3:=Ac.append (Ac.append d1 (Nn hd args.toList)) d2;have hc:=h C G I w hin hmem _ hd3;have hrun:(execOp a.eval o).run P w=.ok (.enter f (us.toArray++args.map a.eval++vs.toArray)) w:=by
  unfold execOp;rw[ho];simp only[resolve,e1,Deferred.ofValue,invoke,Sem.run_bind,Sem.run_pure,Result.andThen_ok];exact UI hf hb hn _ w
 unfold Oper.wp;rw[hrun];have e2:(us++args.toList.map a.eval++vs).toArray=us.toArray++args.map a.eval++vs.toArray:=by
  apply Array.ext';simp
 rw[e2] at hc;refine Calls.mono hc ?_;rintro e w' ⟨y,objs',r,G',I',rfl,k1,k2,k3,k4,k5,k6⟩;exact hnx objs' r y G' I' w' k1 k2 k3 k4 k5 k6
def Ij (P:Program) (T:Nat) (name:String):Option Nat :=
 match P.info? T,P.underlying T with
 | some i,some (.pointer _)=>match i.methods.find? (·.name==name) with
  | some m=>match m.path.toList,m.func with
   | [],some (f,true)=>match P.funcs[f]? with
    | some fn => if fn.body.isSome = true ∧ fn.name ≠ "runtime.NumGoroutine" then some f else none
    | none=>none
   | _,_=>none
  | none=>none
 | _,_=>none
theorem qD [Tabs P] [On P C] (name:String) (args:Array Operand) (ats:Array TypeId) (x:Operand) (T f b off:Nat) (hx:(Ad x).ev tm=.ip T b off) (hf:Ij P T name=some f)
  (h:Ai P f (.p b off::(args.toList.map fun x=>(Ad x).ev tm)) objs K):AA P C (.call { callee:=.invoke x name,args:=args,argTypes:=ats }) type objs tm K:=by
 intro G I a w hin hmem hd o next Q ho ht hnx;have h1:=Aq hd x;rw[hx] at h1;simp only[Ab] at h1;obtain⟨g,hg,he⟩:=h1;have hd3:Ac G I (.p b off::(args.toList.map fun x=>(Ad x).ev tm)) (.pointer (some ⟨g,off,none⟩)::args.toList.map a.eval):=Ac.cons (by simp only[Ab];exact⟨g,hg,rfl⟩) (Nn hd args.toList);have hc:=h C G I w hin hmem _ hd3;unfold Ij at hf
 split at hf
 ·rename_i i e hi hu
  split at hf
  ·rename_i m hm
   split at hf
   ·rename_i f' hp hfn
    split at hf
    ·rename_i fn hfun
     split at hf
     ·rename_i hb;injection hf with hf;subst hf
      have hrun:(execOp a.eval o).run P w=.ok (.enter f' (#[.pointer (some ⟨g,off,none⟩)]++args.map a.eval)) w:=by
       unfold execOp;rw[ho];have hmd:∃n,P.types.size+Made.depth=n+1:=⟨P.types.size+99,rfl⟩;obtain⟨n,hmd⟩:=hmd;have e0:(#[Value.iface T (.pointer (some ⟨g,off,none⟩))]++Array.map a.eval args)[0]? = some (Value.iface T (.pointer (some ⟨g,off,none⟩))):=by rw[Array.getElem?_append_left (show 0<1 from Nat.one_pos)];rfl
       have e9:(Array.map a.eval args).extract 0 args.size=Array.map a.eval args:=by
        have:=Array.extract_size (xs:=Array.map a.eval args)
        rwa [Array.size_map] at this
       simp only[resolve,he,invoke,e0,callMethod,Sem.run_bind,Sem.run_pure,Result.andThen_ok];simp[hmd,method,typeInfo,hi,hm,hp,follow,hfn,receiverAt,run_underlying hu,Place.get,UI hfun hb.1 hb.2,e9]
      unfold Oper.wp;rw[hrun];have e2:(Value.pointer (some ⟨g,off,none⟩)::args.toList.map a.eval).toArray=#[.pointer (some ⟨g,off,none⟩)]++args.map a.eval:=by
       apply Array.ext';simp
      rw[e2] at hc;refine Calls.mono hc ?_;rintro e w' ⟨y,objs',r,G',I',rfl,k1,k2,k3,k4,k5,k6⟩;exact hnx objs' r y G' I' w' k1 k2 k3 k4 k5 k6
     ·cases hf
    ·cases hf
   ·cases hf
  ·cases hf
 ·cases hf
theorem N4 [Tabs P] {f:FuncId} {args:List AV} (r:AV) (hk:K objs r)
  (h:∀(G:Gh) (I:Ak) (w:World) (ys:List Value),Tabs.T (P:=P) w->MemOk G I objs w->Ac G I args ys->∃y,Calls P f ys.toArray w (fun e w'=>e=.returned y/\Below w.heap.size w w')/\Ab G I r y):Ai P f args objs K:=by
 intro C _ G I w hin hm ys hd;obtain⟨y,hc,hr⟩:=h G I w ys (hin.tab (P:=P)) hm hd;refine hc.mono ?_;rintro e w' ⟨rfl,hb⟩;have hg:w.grownBy w' none:=⟨hb.os,hb.tape,hb.output,hb.size,fun k hk _=>hb.block k hk⟩;exact⟨y,objs,r,G,I,rfl,hk,Gh.le.refl G,Ak.le.refl I,hin.evolve hg (by simp),hm.evolve hg,hr⟩
theorem dZ [Tabs P] {f:FuncId} {args:List AV} (r:AV) (hk:K objs r)
  (h:∀(G:Gh) (I:Ak) (w:World) (ys:List Value),MemOk G I objs w->Ac G I args ys->∃y,Calls P f ys.toArray w (fun e w'=>e=.returned y/\Below w.heap.size w w')/\Ab G I r y):Ai P f args objs K :=
 N4 r hk fun G I w ys _ hm hd=>h G I w ys hm hd
end
mutual
/-- a value without memory of the call's own -/
def AV.plain:AV->Bool
 | .agg cs=>AE cs
 | .tup cs=>AE cs
 | .row _ xs=>AE xs
 | .prow xs _=>AE xs
 | .crow _ xs=>AE xs
 | .fn _ fs cs=>AE fs&&AE cs
 | .p _ _=>false
 | .orow _ _=>false
 | .porow _ _ _=>false
 | .bsl _ _ _=>false
 | .m _=>false
 | .ip _ _ _=>false
 | _=>true
def AE:List AV->Bool
 | []=>true
 | x::xs=>x.plain&&AE xs
end
def Gh.none:Gh:=⟨fun _=>Option.none,fun _=>Option.none⟩
mutual
theorem Ab.plain {G G':Gh} {I I':Ak} (hI:Ak.le I I'):∀(x:AV) (y:Value),x.plain=true->Ab G I x y->Ab G' I' x y
 | .s l,y,hp,h=>by simpa[Ab] using h
 | .i k n,y,hp,h=>by simpa[Ab] using h
 | .b x,y,hp,h=>by simpa[Ab] using h
 | .agg cs,y,hp,h=>by
  simp only[Ab] at h ⊢;obtain⟨ys,h1,h2,h3⟩:=h;exact⟨ys,h1,Ac.plain hI cs ys (by simpa[AV.plain] using hp) h2,h3⟩
 | .tup cs,y,hp,h=>by
  simp only[Ab] at h ⊢;obtain⟨ys,h1,h2⟩:=h;exact⟨ys,h1,Ac.plain hI cs ys (by simpa[AV.plain] using hp) h2⟩
 | .p b off,y,hp,h=>by simp[AV.plain] at hp
 | .row n xs,y,hp,h=>by
  simp only[Ab] at h ⊢;obtain⟨a,c,ys,h1,h2,h3,h4,h5⟩:=h;refine⟨a,c,ys,h1,h2,Ac.plain hI xs ys (by simpa[AV.plain] using hp) h3,h4,fun j u hj=>?_⟩;obtain⟨g,off,e,hi⟩:=h5 j u hj;exact⟨g,off,e,hI _ _ _ hi⟩
 | .prow xs j,y,hp,h=>by
  simp only[Ab] at h ⊢;obtain⟨g,off,ys,h1,h3,h4,h5⟩:=h;exact⟨g,off,ys,h1,Ac.plain hI xs ys (by simpa[AV.plain] using hp) h3,h4,fun j u hj=>hI _ _ _ (h5 j u hj)⟩
 | .crow n xs,y,hp,h=>by
  simp only[Ab] at h ⊢;obtain⟨a,ys,h1,h2,h3,h4,h5⟩:=h;refine⟨a,ys,h1,h2,Ac.plain hI xs ys (by simpa[AV.plain] using hp) h3,h4,fun j u hj=>?_⟩;obtain⟨g,off,e,hi⟩:=h5 j u hj;exact⟨g,off,e,hI _ _ _ hi⟩
 | .orow b gen,y,hp,h=>by simp[AV.plain] at hp
 | .porow b gen j,y,hp,h=>by simp[AV.plain] at hp
 | .bsl b off n,y,hp,h=>by simp[AV.plain] at hp
 | .m b,y,hp,h=>by simp[AV.plain] at hp
 | .ip T b off,y,hp,h=>by simp[AV.plain] at hp
 | .zn b,y,hp,h=>by simpa[Ab] using h
 | .nil,y,hp,h=>by simpa[Ab] using h
 | .fn f fs cs,y,hp,h=>by
  simp only[Ab] at h ⊢;simp only[AV.plain,Bool.and_eq_true] at hp;obtain⟨us,ys,h1,h2,h3⟩:=h;exact⟨us,ys,h1,Ac.plain hI fs us hp.1 h2,Ac.plain hI cs ys hp.2 h3⟩
 | .o v,y,hp,h=>by simpa[Ab] using h
 | .u,y,hp,h=>by simp[Ab]
theorem Ac.plain {G G':Gh} {I I':Ak} (hI:Ak.le I I'):∀(xs:List AV) (ys:List Value),AE xs=true->Ac G I xs ys->Ac G' I' xs ys
 | [],ys,hp,h=>by simpa[Ac] using h
 | x::xs,ys,hp,h=>by
  simp only[Ac] at h ⊢;simp only[AE,Bool.and_eq_true] at hp;obtain⟨y,ys',h1,h2,h3⟩:=h;exact⟨y,ys',h1,Ab.plain hI x y hp.1 h2,Ac.plain hI xs ys' hp.2 h3⟩
end
section
variable {P:Program}
theorem RP [Tabs P] {f:FuncId} {args:List AV} {objs:List OB} {K:List OB->AV->Prop} (hp:AE args=true) (h:Ai P f args [] fun _ r=>r.plain=true/\K objs r):Ai P f args objs K:=by
 intro C hOn G I w hin hm ys hd
 let C':Cx:=⟨w,fun _=>False,I,Gh.none⟩
 haveI hOn':On P C':=⟨hin.tab (P:=P),fun _ h=>h⟩
 have hc:=h C' Gh.none I w ⟨rfl,rfl,rfl,zd _,fun _ _ _=>rfl,fun _ _ _ h=>h,fun _ _ _ h=>.inl h,fun b g hb=>by simp[Gh.own,Gh.none] at hb,Gh.le.refl _⟩
  ⟨hm.imm,by simp,by simp,by simp,fun b b' g hb=>by simp[Gh.own,Gh.none] at hb,fun b g hb=>by simp[Gh.own,Gh.none] at hb,fun b g o v hb=>by simp[Gh.own,Gh.none] at hb,fun b _=>⟨rfl,rfl⟩⟩ ys (Ac.plain (Ak.le.refl I) _ _ hp hd)
 refine hc.mono ?_;rintro e w' ⟨y,objs',r,G',I',rfl,⟨hpl,hk⟩,_,hle,hin',hm',hy⟩;have hg:w.grownBy w' none:=⟨hin'.os,hin'.tape,hin'.output,hin'.size,fun k hk _=>hin'.block k hk (fun h=>h)⟩;have hnew:∀g o v,I' g o v->I g o v\/w.heap.size<=g:=by
  intro g o v hi;rcases hin'.news g o v hi with h|h|h
  ·exact .inl h
  ·exact h.elim
  ·exact .inr h
 refine⟨y,objs,r,G,I',rfl,hk,Gh.le.refl G,hle,(hin.evolve hg (by simp)).imm_more hle ?_,(hm.evolve hg).imm_more hle hm'.imm ?_,Ab.plain (Ak.le.refl _) r y hpl hy⟩
 ·intro g o v hi;rcases hnew g o v hi with h|h
  ·exact .inl h
  ·exact .inr (.inr (jr hin.size h))
 ·intro b g o v hb hi;rcases hnew g o v hi with h|h
  ·exact hm.apart b g o v hb h
  ·have:=hm.lt b g hb;omega
theorem Ai.mono [Tabs P] {f:FuncId} {args:List AV} {objs:List OB} {K K':List OB->AV->Prop} (h:Ai P f args objs K) (hk:∀o r,K o r->K' o r):Ai P f args objs K':=by
 intro C hOn G I w hin hm ys hd;refine(h C G I w hin hm ys hd).mono ?_;rintro e w' ⟨y,objs',r,G',I',h1,h2,h3⟩;exact⟨y,objs',r,G',I',h1,hk _ _ h2,h3⟩
end
inductive PQ where
 | bits (op:BinOp)
 | shl
 | shr
 | mn
 | mx
 | rsl (sz:Nat)
 | rslh (sz:Nat)
 | rslb (sz:Nat)
 | asl (sz len:Nat)
 | aslh (sz len:Nat)
 | aslb (sz len:Nat)
 | snil (ne:Bool)
 | scmp (op:BinOp)
 | sl3
 | mki (T:Nat)
 | tas (T:Nat)
 | lit (n:Nat) (z:List AV) (pl:List (Nat×Nat))
def Ih (op:BinOp) (k:IntKind) (a b:Int):Option Int :=
 match op with
 | .and=>some (k.wrap (BitVec.ofInt k.bits a &&& BitVec.ofInt k.bits b).toNat)
 | .or=>some (k.wrap (BitVec.ofInt k.bits a ||| BitVec.ofInt k.bits b).toNat)
 | .xor=>some (k.wrap (BitVec.ofInt k.bits a ^^^ BitVec.ofInt k.bits b).toNat)
 | _=>none
def AG (l m:List UInt8):Bool:=Op.bytesLess l m
def Ml (op:BinOp) (l m:List UInt8):Option Bool :=
 match op with
 | .lss=>some (AG l m)
 | .leq=>some (AG l m||l==m)
 | .gtr=>some (!AG l m&&!(l==m))
 | .geq=>some (!AG l m)
 | _=>none
def Gx:List (Nat×Nat)->List AV->List (Nat×Nat×AV)
 | (o,s)::pl,x::xs=>(o,s,x)::Gx pl xs
 | _,_=>[]
def pq:PQ->List AV->Option AV
 | .bits op,[.i k a,.i k' b]=>if k=k' then (Ih op k a b).map (.i k) else none
 | .shl,[.i k a,.i _ b]=>if 0<=b then some (.i k (k.wrap (a*2 ^ (min b.toNat k.bits)))) else none
 | .shr,[.i k a,.i _ b]=>if 0<=b then some (.i k (a.fdiv (2 ^ (min b.toNat k.bits)))) else none
 | .mn,[.i k a,.i k' b]=>if k=k' then some (.i k (if b<a then b else a)) else none
 | .mx,[.i k a,.i k' b]=>if k=k' then some (.i k (if a<b then b else a)) else none
 | .rsl sz,[.row n xs,.i _ lo]=>if 0<=lo/\lo<=n then some (.row (n - lo.toNat) ((xs.take (n*sz)).drop (lo.toNat*sz))) else none
 | .rsl _,[.nil,.i _ lo]=>if lo=0 then some .nil else none
 | .rslh sz,[.row n xs,.i _ hi]=>if 0<=hi/\hi<=n then some (.row hi.toNat (xs.take (hi.toNat*sz))) else none
 | .rslh _,[.nil,.i _ hi]=>if hi=0 then some .nil else none
 | .rslb sz,[.row n xs,.i _ lo,.i _ hi]=>if 0<=lo/\lo<=hi/\hi<=n then some (.row (hi.toNat - lo.toNat) ((xs.take (hi.toNat*sz)).drop (lo.toNat*sz))) else none
 | .asl sz len,[.p b off,.i _ lo]=>if 0<=lo/\lo<len then some (.bsl b (off+lo.toNat*sz) (len - lo.toNat)) else none
 | .aslh sz len,[.p b off,.i _ hi]=>if 0<=hi/\hi<=len/\0<len then some (.bsl b off hi.toNat) else none
 | .aslb sz len,[.p b off,.i _ lo,.i _ hi]=>if 0<=lo/\lo<=hi/\hi<=len/\lo<len then some (.bsl b (off+lo.toNat*sz) (hi.toNat - lo.toNat)) else none
 | .snil ne,[x,.nil]=>match x with
  | .nil=>some (.b (!ne))
  | .zn b=>some (.b (if ne then !b else b))
  | .row _ (_::_)=>some (.b ne)
  | _=>none
 | .scmp op,[.s l,.s m]=>(Ml op l m).map .b
 | .sl3,[.row n xs,.i _ a,.i _ b]=>if a=n/\b=n then some (.crow n xs) else none
 | .sl3,[.nil,.i _ a,.i _ b]=>if a=0/\b=0 then some (.crow 0 []) else none
 | .mki T,[.p b off]=>some (.ip T b off)
 | .mki T,[.i k n]=>some (.o (.iface T (.int k n)))
 | .tas T,[.o (.iface T' (.int k n))]=>if T'=T then some (.tup [.i k n,.b true]) else none
 | .lit n z pl,xs=>(D7 z (Gx pl xs)).map (.crow n)
 | _,_=>none
def OM (P:Program):Op->Option (PQ×List SV)
 | .binOp op T x y _=>match P.underlying T with
  | some (.int _)=>match op with
   | .and=>some (.bits .and,[Ad x,Ad y])
   | .or=>some (.bits .or,[Ad x,Ad y])
   | .xor=>some (.bits .xor,[Ad x,Ad y])
   | .shl=>some (.shl,[Ad x,Ad y])
   | .shr=>some (.shr,[Ad x,Ad y])
   | _=>none
  | some .string=>match op with
   | .lss=>some (.scmp .lss,[Ad x,Ad y])
   | .leq=>some (.scmp .leq,[Ad x,Ad y])
   | .gtr=>some (.scmp .gtr,[Ad x,Ad y])
   | .geq=>some (.scmp .geq,[Ad x,Ad y])
   | _=>none
  | some (.slice _)=>match op with
   | .eql=>some (.snil false,[Ad x,Ad y])
   | .neq=>some (.snil true,[Ad x,Ad y])
   | _=>none
  | _=>none
 | .call c=>match c.callee with
  | .builtin .min=>match c.args.toList with
   | [x,y]=>some (.mn,[Ad x,Ad y])
   | _=>none
  | .builtin .max=>match c.args.toList with
   | [x,y]=>some (.mx,[Ad x,Ad y])
   | _=>none
  | _=>none
 | .slice T x (some lo) none none=>match P.underlying T with
  | some (.slice e)=>match P.info? e with
   | some i=>some (.rsl i.size,[Ad x,Ad lo])
   | none=>none
  | some (.array len e)=>match P.info? e with
   | some i=>some (.asl i.size len,[Ad x,Ad lo])
   | none=>none
  | _=>none
 | .slice T x (some lo) (some hi) none=>match P.underlying T with
  | some (.slice e)=>match P.info? e with
   | some i=>some (.rslb i.size,[Ad x,Ad lo,Ad hi])
   | none=>none
  | some (.array len e)=>match P.info? e with
   | some i=>some (.aslb i.size len,[Ad x,Ad lo,Ad hi])
   | none=>none
  | _=>none
 | .slice T x none (some hi) none=>match P.underlying T with
  | some (.array len e)=>match P.info? e with
   | some i=>some (.aslh i.size len,[Ad x,Ad hi])
   | none=>none
  | _=>none
 | .slice T x none (some hi) (some mx)=>match P.underlying T with
  | some (.slice e)=>match P.info? e with
   | some i=>some (.sl3,[Ad x,Ad hi,Ad mx])
   | none=>none
  | _=>none
 | .makeInterface T x=>match P.underlying T with
  | some (.pointer _)=>some (.mki T,[Ad x])
  | some (.int _)=>some (.mki T,[Ad x])
  | _=>none
 | .typeAssert x _ T true=>match P.underlying T with
  | some (.int _)=>some (.tas T,[Ad x])
  | _=>none
 | _=>none
section
variable {P:Program} {C:Cx} {type:TypeId} {objs:List OB} {tm:List AV} {K:List OB->AV->Prop}
theorem W4 (op:BinOp) (T T':TypeId) (x y:Operand) (k:IntKind) (a b r:Int) (hx:(Ad x).ev tm=.i k a) (hy:(Ad y).ev tm=.i k b) (hr:Ih op k a b=some r) (h:K objs (.i k r)):AA P C (.binOp op T x y T') type objs tm K :=
 A9 _ h fun G I act w hm hd o ho ht=>by
  have h1:=Aq hd x;rw[hx] at h1;simp only[Ab] at h1;have h2:=Aq hd y;rw[hy] at h2;simp only[Ab] at h2;refine⟨.int k r,?_,by simp[Ab]⟩;unfold execOp;rw[ho]
  cases op<;>simp only[Ih,zx.injEq,reduceCtorEq] at hr<;>subst hr<;>simp[h1,h2,eqGuard,binOp,Op.intBits]
theorem qN (T T':TypeId) (x y:Operand) (k k':IntKind) (a b:Int) (hx:(Ad x).ev tm=.i k a) (hy:(Ad y).ev tm=.i k' b) (hb:0<=b) (h:K objs (.i k (k.wrap (a*2 ^ (min b.toNat k.bits))))):AA P C (.binOp .shl T x y T') type objs tm K :=
 A9 _ h fun G I act w hm hd o ho ht=>by
  have h1:=Aq hd x;rw[hx] at h1;simp only[Ab] at h1;have h2:=Aq hd y;rw[hy] at h2;simp only[Ab] at h2;refine⟨_,?_,by simp only[Ab];rfl⟩;unfold execOp;rw[ho];simp[h1,h2,eqGuard,binOp,Op.shift,show ¬b<0 by omega]
theorem qO (T T':TypeId) (x y:Operand) (k k':IntKind) (a b:Int) (hx:(Ad x).ev tm=.i k a) (hy:(Ad y).ev tm=.i k' b) (hb:0<=b) (h:K objs (.i k (a.fdiv (2 ^ (min b.toNat k.bits))))):AA P C (.binOp .shr T x y T') type objs tm K :=
 A9 _ h fun G I act w hm hd o ho ht=>by
  have h1:=Aq hd x;rw[hx] at h1;simp only[Ab] at h1;have h2:=Aq hd y;rw[hy] at h2;simp only[Ab] at h2;refine⟨_,?_,by simp only[Ab];rfl⟩;unfold execOp;rw[ho];simp[h1,h2,eqGuard,binOp,Op.shift,show ¬b<0 by omega]
theorem mY (ty:TypeId) (x y:Operand) (ats:Array TypeId) (k:IntKind) (a b:Int) (hx:(Ad x).ev tm=.i k a) (hy:(Ad y).ev tm=.i k b) (h:K objs (.i k (if b<a then b else a))):AA P C (.call { callee:=.builtin .min,args:=#[x,y],argTypes:=ats }) ty objs tm K :=
 A9 _ h fun G I act w hm hd o ho ht=>by
  have h1:=Aq hd x;rw[hx] at h1;simp only[Ab] at h1;have h2:=Aq hd y;rw[hy] at h2;simp only[Ab] at h2;refine⟨_,?_,by simp only[Ab];rfl⟩;unfold execOp;rw[ho];simp[resolve,invoke,builtin,Builtin.min_,Builtin.min2,h1,h2]
theorem mZ (ty:TypeId) (x y:Operand) (ats:Array TypeId) (k:IntKind) (a b:Int) (hx:(Ad x).ev tm=.i k a) (hy:(Ad y).ev tm=.i k b) (h:K objs (.i k (if a<b then b else a))):AA P C (.call { callee:=.builtin .max,args:=#[x,y],argTypes:=ats }) ty objs tm K :=
 A9 _ h fun G I act w hm hd o ho ht=>by
  have h1:=Aq hd x;rw[hx] at h1;simp only[Ab] at h1;have h2:=Aq hd y;rw[hy] at h2;simp only[Ab] at h2;refine⟨_,?_,by simp only[Ab];rfl⟩;unfold execOp;rw[ho];simp[resolve,invoke,builtin,Builtin.max_,Builtin.max2,h1,h2]
theorem Wz (op:BinOp) (T T':TypeId) (x y:Operand) (l m:List UInt8) (r:Bool) (hx:(Ad x).ev tm=.s l) (hy:(Ad y).ev tm=.s m) (hr:Ml op l m=some r) (h:K objs (.b r)):AA P C (.binOp op T x y T') type objs tm K :=
 A9 _ h fun G I act w hm hd o ho ht=>by
  have h1:=Aq hd x;rw[hx] at h1;simp only[Ab] at h1;have h2:=Aq hd y;rw[hy] at h2;simp only[Ab] at h2;refine⟨.bool r,?_,by simp[Ab]⟩;unfold execOp;rw[ho];have e1:(⟨l.toArray⟩:ByteArray).toList=l:=by rw[ByteArray.toList_eq]
  have e2:(⟨m.toArray⟩:ByteArray).toList=m:=by rw[ByteArray.toList_eq]
  cases op<;>simp only[Ml,zx.injEq,reduceCtorEq] at hr<;>subst hr<;>simp[h1,h2,eqGuard,binOp,Op.stringOp,e1,e2,AG]
theorem M5 {G:Gh} {I:Ak} {P:Program} {w:World} {T e:TypeId} {i:TypeInfo} (hu:P.underlying T=some (.slice e)) (hi:P.info? e=some i) {n:Nat} {xs:List AV} {y:Value} (h:Ab G I (.row n xs) y) (lo hi':Option Value) (l hh:Nat) (hl:l<=hh) (hn:hh<=n)
  (hb:∀c,n<=c->(Instr.sliceBounds true n c lo hi' none).run P w=.ok (l,hh,c) w):∃v,(Instr.sliceAt T y lo hi' none).run P w=.ok v w/\Ab G I (.row (hh - l) ((xs.take (hh*i.size)).drop (l*i.size))) v:=by
 simp only[Ab] at h;obtain⟨a,c,ys,rfl,h2,h3,h4,h5⟩:=h;refine⟨.slice (if c=l then a else a.map (·.add (l*i.size))) (hh - l) (c - l),?_,?_⟩
 ·have:=hb c h2.1;simp[Instr.sliceAt,Instr.slice,run_underlying hu,this,sizeOf,typeInfo,hi]
 ·simp only[Ab];refine⟨_,_,(ys.take (hh*i.size)).drop (l*i.size),rfl,⟨by omega,?_⟩,Ac.drop _ (Ac.take _ h3),fun u hu=>h4 u (jo (ji hu)),?_⟩
  ·intro ad had hc0
   split at had
   ·rename_i hcl;omega
   ·cases a with
    | none=>simp at had
    | some a0=>
     simp at had;have:=h2.2 a0 rfl (by omega);obtain⟨g,off,sp⟩:=a0;simp at this;subst this;rw[B9] at had;rw[<-had]
  ·intro j u hj;rw[ju,xh] at hj
   split at hj
   ·rename_i hlt;obtain⟨g,off,e1,e2⟩:=h5 _ _ hj;refine⟨g,off+l*i.size,?_,by rw[Nat.add_assoc];exact e2⟩;have hne:¬c=l:=by
     rintro rfl;have:hh=c:=by omega
     subst this;omega
    rw[if_neg hne,e1,jt,B9]
   ·cases hj
theorem qL (T:TypeId) (x lo:Operand) (e:TypeId) (i:TypeInfo) (hu:P.underlying T=some (.slice e)) (hi:P.info? e=some i) (n:Nat) (xs:List AV) (k:IntKind) (l:Int) (hx:(Ad x).ev tm=.row n xs) (hlo:(Ad lo).ev tm=.i k l) (h0:0<=l) (h1:l<=n)
  (h:K objs (.row (n - l.toNat) ((xs.take (n*i.size)).drop (l.toNat*i.size)))):AA P C (.slice T x (some lo) none none) type objs tm K :=
 A9 _ h fun G I act w hm hd o ho ht=>by
  have e1:=Aq hd x;rw[hx] at e1;have e2:=Aq hd lo;rw[hlo] at e2;simp only[Ab] at e2;obtain⟨v,k1,k2⟩:=M5 (P:=P) (w:=w) hu hi e1 (some (.int k l)) none l.toNat n (by omega) (zd _) (fun c hc=>by
   simp[Instr.sliceBounds,run_sliceBound w k l n _ h0 h1])
  refine⟨v,?_,k2⟩;unfold execOp;rw[ho];simp[e2,k1]
theorem Wx (T:TypeId) (x lo:Operand) (e:TypeId) (i:TypeInfo) (hu:P.underlying T=some (.slice e)) (hi:P.info? e=some i) (n:Nat) (xs:List AV) (k:IntKind) (l:Int) (hx:(Ad x).ev tm=.row n xs) (hlo:(Ad lo).ev tm=.i k l) (h0:0<=l) (h1:l<=n)
  (h:K objs (.row l.toNat (xs.take (l.toNat*i.size)))):AA P C (.slice T x none (some lo) none) type objs tm K :=
 A9 _ h fun G I act w hm hd o ho ht=>by
  have e1:=Aq hd x;rw[hx] at e1;have e2:=Aq hd lo;rw[hlo] at e2;simp only[Ab] at e2;obtain⟨v,k1,k2⟩:=M5 (P:=P) (w:=w) hu hi e1 none (some (.int k l)) 0 l.toNat (by omega) (by omega) (fun c hc=>by
   simp[Instr.sliceBounds,run_sliceBound w k l c _ h0 (by omega)])
  refine⟨v,?_,by simpa using k2⟩;unfold execOp;rw[ho];simp[e2,k1]
theorem Ww (T:TypeId) (x lo hi':Operand) (e:TypeId) (i:TypeInfo) (hu:P.underlying T=some (.slice e)) (hi:P.info? e=some i) (n:Nat) (xs:List AV) (k k':IntKind) (l m:Int) (hx:(Ad x).ev tm=.row n xs) (hlo:(Ad lo).ev tm=.i k l) (hhi:(Ad hi').ev tm=.i k' m) (h0:0<=l) (h1:l<=m) (h2:m<=n)
  (h:K objs (.row (m.toNat - l.toNat) ((xs.take (m.toNat*i.size)).drop (l.toNat*i.size)))):AA P C (.slice T x (some lo) (some hi') none) type objs tm K :=
 A9 _ h fun G I act w hm hd o ho ht=>by
  have e1:=Aq hd x;rw[hx] at e1;have e2:=Aq hd lo;rw[hlo] at e2;simp only[Ab] at e2;have e3:=Aq hd hi';rw[hhi] at e3;simp only[Ab] at e3;obtain⟨v,k1,k2⟩:=M5 (P:=P) (w:=w) hu hi e1 (some (.int k l)) (some (.int k' m)) l.toNat m.toNat (by omega) (by omega) (fun c hc=>by
   have q1:=run_sliceBound (P:=P) w k' m c .sliceAcap (by omega) (by omega);have q2:=run_sliceBound (P:=P) w k l m.toNat .sliceB h0 (by omega);simp[Instr.sliceBounds,q1,q2])
  refine⟨v,?_,k2⟩;unfold execOp;rw[ho];simp[e2,e3,k1]
theorem qM (T:TypeId) (x lo:Operand) (e:TypeId) (i:TypeInfo) (hu:P.underlying T=some (.slice e)) (hi:P.info? e=some i) (k:IntKind) (hx:(Ad x).ev tm=.nil) (hlo:(Ad lo).ev tm=.i k 0) (h:K objs .nil):AA P C (.slice T x (some lo) none none) type objs tm K :=
 A9 _ h fun G I act w hm hd o ho ht=>by
  have e1:=Aq hd x;rw[hx] at e1;simp only[Ab] at e1;have e2:=Aq hd lo;rw[hlo] at e2;simp only[Ab] at e2;refine⟨.slice none 0 0,?_,by simp[Ab]⟩;unfold execOp;rw[ho];have q1:=run_sliceBound (P:=P) w k 0 0 .sliceB (by omega) (by omega);simp[e1,e2,Instr.sliceAt,Instr.slice,run_underlying hu,Instr.sliceBounds,q1,sizeOf,typeInfo,hi]
theorem Wy (T:TypeId) (x lo:Operand) (e:TypeId) (i:TypeInfo) (hu:P.underlying T=some (.slice e)) (hi:P.info? e=some i) (k:IntKind) (hx:(Ad x).ev tm=.nil) (hlo:(Ad lo).ev tm=.i k 0) (h:K objs .nil):AA P C (.slice T x none (some lo) none) type objs tm K :=
 A9 _ h fun G I act w hm hd o ho ht=>by
  have e1:=Aq hd x;rw[hx] at e1;simp only[Ab] at e1;have e2:=Aq hd lo;rw[hlo] at e2;simp only[Ab] at e2;refine⟨.slice none 0 0,?_,by simp[Ab]⟩;unfold execOp;rw[ho];have q1:=run_sliceBound (P:=P) w k 0 0 .sliceAcap (by omega) (by omega);simp[e1,e2,Instr.sliceAt,Instr.slice,run_underlying hu,Instr.sliceBounds,q1,sizeOf,typeInfo,hi]
theorem rG (T:TypeId) (x lo:Operand) (e:TypeId) (i:TypeInfo) (len:Nat) (hu:P.underlying T=some (.array len e)) (hi:P.info? e=some i) (b off:Nat) (k:IntKind) (l:Int) (hx:(Ad x).ev tm=.p b off) (hlo:(Ad lo).ev tm=.i k l) (h0:0<=l) (h1:l<len)
  (h:K objs (.bsl b (off+l.toNat*i.size) (len - l.toNat))):AA P C (.slice T x (some lo) none none) type objs tm K :=
 A9 _ h fun G I act w hm hd o ho ht=>by
  have e1:=Aq hd x;rw[hx] at e1;simp only[Ab] at e1;have e2:=Aq hd lo;rw[hlo] at e2;simp only[Ab] at e2;obtain⟨g,k1,k2⟩:=e1;refine⟨.slice (some ⟨g,off+l.toNat*i.size,none⟩) (len - l.toNat) (len - l.toNat),?_,by simp only[Ab];exact⟨g,_,k1,rfl,zd _⟩⟩;unfold execOp;rw[ho];have q1:=run_sliceBound (P:=P) w k l len .sliceB h0 (by omega);simp[e2,k2,Instr.sliceAt,Instr.sureAddr,run_underlying hu,Instr.sliceBounds,q1,sizeOf,typeInfo,hi,show ¬len=l.toNat by omega,B9]
theorem W3 (T:TypeId) (x hi':Operand) (e:TypeId) (i:TypeInfo) (len:Nat) (hu:P.underlying T=some (.array len e)) (hi:P.info? e=some i) (b off:Nat) (k:IntKind) (l:Int) (hx:(Ad x).ev tm=.p b off) (hlo:(Ad hi').ev tm=.i k l) (h0:0<=l) (h1:l<=len) (h2:0<len)
  (h:K objs (.bsl b off l.toNat)):AA P C (.slice T x none (some hi') none) type objs tm K :=
 A9 _ h fun G I act w hm hd o ho ht=>by
  have e1:=Aq hd x;rw[hx] at e1;simp only[Ab] at e1;have e2:=Aq hd hi';rw[hlo] at e2;simp only[Ab] at e2;obtain⟨g,k1,k2⟩:=e1;refine⟨.slice (some ⟨g,off,none⟩) l.toNat len,?_,by simp only[Ab];exact⟨g,_,k1,rfl,by omega⟩⟩;unfold execOp;rw[ho];have q1:=run_sliceBound (P:=P) w k l len .sliceAlen h0 (by omega);simp[e2,k2,Instr.sliceAt,Instr.sureAddr,run_underlying hu,Instr.sliceBounds,q1,sizeOf,typeInfo,hi,show ¬len=0 by omega,B9]
theorem W2 (T:TypeId) (x lo hi':Operand) (e:TypeId) (i:TypeInfo) (len:Nat) (hu:P.underlying T=some (.array len e)) (hi:P.info? e=some i) (b off:Nat) (k k':IntKind) (l m:Int) (hx:(Ad x).ev tm=.p b off) (hlo:(Ad lo).ev tm=.i k l) (hhi:(Ad hi').ev tm=.i k' m) (h0:0<=l) (h1:l<=m) (h2:m<=len) (h3:l<len)
  (h:K objs (.bsl b (off+l.toNat*i.size) (m.toNat - l.toNat))):AA P C (.slice T x (some lo) (some hi') none) type objs tm K :=
 A9 _ h fun G I act w hm hd o ho ht=>by
  have e1:=Aq hd x;rw[hx] at e1;simp only[Ab] at e1;have e2:=Aq hd lo;rw[hlo] at e2;simp only[Ab] at e2;have e3:=Aq hd hi';rw[hhi] at e3;simp only[Ab] at e3;obtain⟨g,k1,k2⟩:=e1;refine⟨.slice (some ⟨g,off+l.toNat*i.size,none⟩) (m.toNat - l.toNat) (len - l.toNat),?_,by simp only[Ab];exact⟨g,_,k1,rfl,by omega⟩⟩;unfold execOp;rw[ho];have q1:=run_sliceBound (P:=P) w k' m len .sliceAlen (by omega) (by omega);have q2:=run_sliceBound (P:=P) w k l m.toNat .sliceB h0 (by omega);simp[e2,e3,k2,Instr.sliceAt,Instr.sureAddr,run_underlying hu,Instr.sliceBounds,q1,q2,sizeOf,typeInfo,hi,show ¬len=l.toNat by omega,B9]
theorem MO (op:BinOp) (ne:Bool) (hop:op=(if ne then .neq else .eql)) (T T' e:TypeId) (x y:Operand) (hu:P.underlying T=some (.slice e)) (r:Bool) (hy:(Ad y).ev tm=.nil)
  (hx:((Ad x).ev tm=.nil/\r=!ne)\/(∃b,(Ad x).ev tm=.zn b/\r=(if ne then !b else b))\/(∃n z zs,(Ad x).ev tm=.row n (z::zs)/\r=ne)) (h:K objs (.b r)):AA P C (.binOp op T x y T') type objs tm K :=
 A9 _ h fun G I act w hm hd o ho ht=>by
  have e1:=Aq hd x;have e2:=Aq hd y;rw[hy] at e2;simp only[Ab] at e2;have key:∃a n c,act.eval x=.slice a n c/\r=(if ne then !a.isNone else a.isNone):=by
   rcases hx with ⟨hx,rfl⟩|⟨b,hx,rfl⟩|⟨n,z,zs,hx,rfl⟩
   ·rw[hx] at e1;simp only[Ab] at e1;exact⟨none,0,0,e1,by cases ne<;>rfl⟩
   ·rw[hx] at e1;simp only[Ab] at e1;obtain⟨a,c,e1,e3,_⟩:=e1;exact⟨a,0,c,e1,by rw[e3]⟩
   ·rw[hx] at e1;simp only[Ab] at e1;obtain⟨a,c,ys,e1,_,k3,_,k5⟩:=e1
    cases ys with
    | nil=>have:=k3.length;simp at this
    | cons y' ys=>
     obtain⟨g,off,e,_⟩:=k5 0 y' rfl;subst e;exact⟨_,n,c,e1,by cases r<;>rfl⟩
  obtain⟨a,n,c,hv,rfl⟩:=key;refine⟨.bool (if ne then !a.isNone else a.isNone),?_,by simp[Ab]⟩;unfold execOp;rw[ho];have hq:(Op.equal T (.slice a n c) (.slice none 0 0)).run P w=.ok a.isNone w:=by
   unfold Op.equal;have hmd:∃d,Op.maxDepth=d+1:=⟨_,rfl⟩;obtain⟨d,hmd⟩:=hmd;rw[hmd,Op.equalIn]
   cases a<;>simp[run_underlying hu]
  cases ne<;>subst hop<;>simp[hv,e2,eqGuard,binOp,hq]
theorem Kw (T T':TypeId) (d:TypeDesc) (hu:P.underlying T=some d) (hd':∀ms,d≠.interface ms) (x:Operand) (v:AV) (hx:(∃b off,(Ad x).ev tm=.p b off/\v=.ip T b off)\/(∃k n,(Ad x).ev tm=.i k n/\v=.o (.iface T (.int k n)))) (h:K objs v):AA P C (.makeInterface T x) T' objs tm K :=
 A9 _ h fun G I act w hm hd o ho ht=>by
  have e1:=Aq hd x;have hr:∀y,(Instr.makeInterface T y).run P w=.ok (.iface T y) w:=by
   intro y;unfold Instr.makeInterface;rw[Sem.run_bind,run_underlying hu w]
   cases d<;>simp_all
  rcases hx with ⟨b,off,hx,rfl⟩|⟨k,n,hx,rfl⟩
  ·rw[hx] at e1;simp only[Ab] at e1;obtain⟨g,k1,k2⟩:=e1;refine⟨_,?_,by simp only[Ab];exact⟨g,k1,rfl⟩⟩;unfold execOp;rw[ho];simp[k2,hr]
  ·rw[hx] at e1;simp only[Ab] at e1;refine⟨.iface T (.int k n),?_,by simp only[Ab]⟩;unfold execOp;rw[ho];simp[e1,hr]
theorem qP (T xT T':TypeId) (kk:IntKind) (hu:P.underlying T=some (.int kk)) (x:Operand) (k:IntKind) (n:Int) (hx:(Ad x).ev tm=.o (.iface T (.int k n))) (h:K objs (.tup [.i k n,.b true])):AA P C (.typeAssert x xT T true) T' objs tm K :=
 A9 _ h fun G I act w hm hd o ho ht=>by
  have e1:=Aq hd x;rw[hx] at e1;simp only[Ab] at e1;refine⟨.tuple #[.int k n,.bool true],?_,by simp only[Ab];exact⟨[.int k n,.bool true],rfl,Ac.cons (by simp[Ab]) (Ac.cons (by simp[Ab]) Ac.nil)⟩⟩;unfold execOp;rw[ho];simp[e1,Instr.typeAssert,run_underlying hu]
theorem PA (T:TypeId) (x h' m':Operand) (e:TypeId) (i:TypeInfo) (hu:P.underlying T=some (.slice e)) (hi:P.info? e=some i) (n:Nat) (xs:List AV) (k k':IntKind) (hx:(Ad x).ev tm=.row n xs\/((Ad x).ev tm=.nil/\n=0/\xs=[])) (hh:(Ad h').ev tm=.i k n) (hm':(Ad m').ev tm=.i k' n)
  (h:K objs (.crow n xs)):AA P C (.slice T x none (some h') (some m')) type objs tm K :=
 A9 _ h fun G I act w hm hd o ho ht=>by
  have e1:=Aq hd x;have e2:=Aq hd h';rw[hh] at e2;simp only[Ab] at e2;have e3:=Aq hd m';rw[hm'] at e3;simp only[Ab] at e3;obtain⟨a,c,ys,f1,f2,f3,f4,f5⟩:∃a c ys,act.eval x=.slice a n c/\(n<=c/\∀ad:Addr,a=some ad->c≠0->ad.spot=none)/\Ac G I xs ys/\(∀u∈ys,u.oneCell'=true)/\∀(j:Nat) u,ys[j]? = some u->∃g off,a=some ⟨g,off,none⟩/\I g (off+j) u:=by
   rcases hx with hx|⟨hx,rfl,rfl⟩
   ·rw[hx] at e1;simp only[Ab] at e1;exact e1
   ·rw[hx] at e1;simp only[Ab] at e1;exact⟨none,0,[],e1,⟨zd _,by simp⟩,Ac.nil,by simp,by simp⟩
  have q1:=run_sliceBound (P:=P) w k' n c .slice3Acap (by omega) (by omega);have q2:=run_sliceBound (P:=P) w k n n .slice3B (by omega) (by omega);have ha:(if n=0 then a else a.map (·.add (0*i.size)))=a:=by
   by_cases h0:n=0
   ·rw[if_pos h0]
   ·rw[if_neg h0]
    cases a with
    | none=>rfl
    | some ad=>
     have:=f2.2 ad rfl (by omega);obtain⟨g,off,sp⟩:=ad;dsimp only at this;subst this;rw[jt,B9,Nat.zero_mul,Nat.add_zero]
  simp only[Int.toNat_natCast] at q1 q2;refine⟨.slice a n n,?_,?_⟩
  ·unfold execOp;rw[ho];have hb:(Instr.sliceBounds true n c none (some (.int k n)) (some (.int k' n))).run P w=.ok (0,n,n) w:=by
    simp[Instr.sliceBounds,q1,q2]
   simp only[f1,e2,e3,jt,Option.map_none];simp[Instr.sliceAt,Instr.slice,run_underlying hu,hb,sizeOf,typeInfo,hi];simpa using ha
  ·simp only[Ab];exact⟨a,ys,rfl,fun ad h1 h2=>f2.2 ad h1 (by omega),f3,f4,f5⟩
theorem nD (o:Op) (q:PQ) (xs:List SV) (v:AV) (ht:OM P o=some (q,xs)) (hv:pq q (xs.map fun x=>x.ev tm)=some v) (h:K objs v):AA P C o type objs tm K:=by
 unfold OM at ht
 split at ht
 ·rename_i op T x y T'
  split at ht
  ·have int:∀op',(some (PQ.bits op',[Ad x,Ad y]):Option (PQ×List SV))=some (q,xs)->AA P C (.binOp op' T x y T') type objs tm K:=by
    intro op' e;injection e with e;injection e with e1 e2;subst e1 e2
    simp only[zr,qf] at hv;unfold pq at hv
    split at hv<;>simp only[reduceCtorEq,PQ.bits.injEq,qj.injEq,and_true] at *
    rename_i op2 k a k' b e1 e2;subst e1;obtain⟨hx,hy⟩:=e2
    split at hv
    ·rename_i hk;subst hk;simp only[xf] at hv;obtain⟨r,hr,rfl⟩:=hv;exact W4 _ T T' x y k a b r hx hy hr h
    ·cases hv
   split at ht
   ·exact int _ ht
   ·exact int _ ht
   ·exact int _ ht
   ·injection ht with e;injection e with e1 e2;subst e1 e2
    simp only[zr,qf] at hv;unfold pq at hv
    split at hv<;>simp only[reduceCtorEq,qj.injEq,and_true] at *
    rename_i k a k' b _ e2;obtain⟨hx,hy⟩:=e2
    split at hv
    ·rename_i hb;injection hv with hv;subst hv
     exact qN T T' x y k k' a b hx hy hb h
    ·cases hv
   ·injection ht with e;injection e with e1 e2;subst e1 e2
    simp only[zr,qf] at hv;unfold pq at hv
    split at hv<;>simp only[reduceCtorEq,qj.injEq,and_true] at *
    rename_i k a k' b _ e2;obtain⟨hx,hy⟩:=e2
    split at hv
    ·rename_i hb;injection hv with hv;subst hv
     exact qO T T' x y k k' a b hx hy hb h
    ·cases hv
   ·cases ht
  ·have str:∀op',(some (PQ.scmp op',[Ad x,Ad y]):Option (PQ×List SV))=some (q,xs)->AA P C (.binOp op' T x y T') type objs tm K:=by
    intro op' e;injection e with e;injection e with e1 e2;subst e1 e2
    simp only[zr,qf] at hv;unfold pq at hv
    split at hv<;>simp only[reduceCtorEq,PQ.scmp.injEq,qj.injEq,and_true] at *
    rename_i op2 l m e1 e2;subst e1;obtain⟨hx,hy⟩:=e2;simp only[xf] at hv;obtain⟨r,hr,rfl⟩:=hv;exact Wz _ T T' x y l m r hx hy hr h
   split at ht
   ·exact str _ ht
   ·exact str _ ht
   ·exact str _ ht
   ·exact str _ ht
   ·cases ht
  ·rename_i e hu;have nl:∀(op':BinOp) (ne:Bool),op'=(if ne then .neq else .eql)->(some (PQ.snil ne,[Ad x,Ad y]):Option (PQ×List SV))=some (q,xs)->AA P C (.binOp op' T x y T') type objs tm K:=by
    intro op' ne hop e';injection e' with e';injection e' with e1 e2;subst e1 e2
    simp only[zr,qf] at hv;unfold pq at hv
    split at hv<;>simp only[reduceCtorEq,PQ.snil.injEq,qj.injEq,and_true] at *
    rename_i ne' x' e1 e2;subst e1;obtain⟨hx,hy⟩:=e2
    split at hv
    ·injection hv with hv;subst hv
     exact MO op' ne hop T T' e x y hu _ hy (.inl ⟨hx,rfl⟩) h
    ·injection hv with hv;subst hv
     exact MO op' ne hop T T' e x y hu _ hy (.inr (.inl ⟨_,hx,rfl⟩)) h
    ·injection hv with hv;subst hv
     exact MO op' ne hop T T' e x y hu _ hy (.inr (.inr ⟨_,_,_,hx,rfl⟩)) h
    ·cases hv
   split at ht
   ·exact nl _ false rfl ht
   ·exact nl _ true rfl ht
   ·cases ht
  ·cases ht
 ·rename_i c;obtain⟨callee,args,ats⟩:=c
  split at ht
  ·rename_i hc;simp only at hc;subst hc
   split at ht
   ·rename_i x y hargs;have ea:args=#[x,y]:=by apply Array.ext';simpa using hargs
    subst ea;injection ht with e;injection e with e1 e2;subst e1 e2
    simp only[zr,qf] at hv;unfold pq at hv
    split at hv<;>simp only[reduceCtorEq,qj.injEq,and_true] at *
    rename_i k a k' b _ e2;obtain⟨hx,hy⟩:=e2
    split at hv
    ·rename_i hk;subst hk;injection hv with hv;subst hv
     exact mY _ x y ats k a b hx hy h
    ·cases hv
   ·cases ht
  ·rename_i hc;simp only at hc;subst hc
   split at ht
   ·rename_i x y hargs;have ea:args=#[x,y]:=by apply Array.ext';simpa using hargs
    subst ea;injection ht with e;injection e with e1 e2;subst e1 e2
    simp only[zr,qf] at hv;unfold pq at hv
    split at hv<;>simp only[reduceCtorEq,qj.injEq,and_true] at *
    rename_i k a k' b _ e2;obtain⟨hx,hy⟩:=e2
    split at hv
    ·rename_i hk;subst hk;injection hv with hv;subst hv
     exact mZ _ x y ats k a b hx hy h
    ·cases hv
   ·cases ht
  ·cases ht
 ·rename_i T x lo
  split at ht
  ·rename_i e hu
   split at ht
   ·rename_i i hi;injection ht with ee;injection ee with e1 e2;subst e1 e2
    simp only[zr,qf] at hv;unfold pq at hv
    split at hv<;>simp only[reduceCtorEq,PQ.rsl.injEq,qj.injEq,and_true] at *
    ·rename_i sz n ys k l e1 e2;subst e1;obtain⟨hx,hy⟩:=e2
     split at hv
     ·rename_i hb;injection hv with hv;subst hv
      exact qL T x lo e i hu hi n ys k l hx hy hb.1 hb.2 h
     ·cases hv
    ·rename_i sz k l e1 e2;obtain⟨hx,hy⟩:=e2
     split at hv
     ·rename_i hb;subst hb;injection hv with hv;subst hv
      exact qM T x lo e i hu hi k hx hy h
     ·cases hv
   ·cases ht
  ·rename_i len e hu
   split at ht
   ·rename_i i hi;injection ht with ee;injection ee with e1 e2;subst e1 e2
    simp only[zr,qf] at hv;unfold pq at hv
    split at hv<;>simp only[reduceCtorEq,PQ.asl.injEq,qj.injEq,and_true] at *
    rename_i sz len' b off k l e1 e2;obtain⟨e1,e3⟩:=e1;subst e1 e3;obtain⟨hx,hy⟩:=e2
    split at hv
    ·rename_i hb;injection hv with hv;subst hv
     exact rG T x lo e i len hu hi b off k l hx hy hb.1 hb.2 h
    ·cases hv
   ·cases ht
  ·cases ht
 ·rename_i T x lo hi'
  split at ht
  ·rename_i e hu
   split at ht
   ·rename_i i hi;injection ht with ee;injection ee with e1 e2;subst e1 e2
    simp only[zr,qf] at hv;unfold pq at hv
    split at hv<;>simp only[reduceCtorEq,PQ.rslb.injEq,qj.injEq,and_true] at *
    rename_i sz n ys k l k' m e1 e2;subst e1;obtain⟨hx,hlo,hhi⟩:=e2
    split at hv
    ·rename_i hb;injection hv with hv;subst hv
     exact Ww T x lo hi' e i hu hi n ys k k' l m hx hlo hhi hb.1 hb.2.1 hb.2.2 h
    ·cases hv
   ·cases ht
  ·rename_i len e hu
   split at ht
   ·rename_i i hi;injection ht with ee;injection ee with e1 e2;subst e1 e2
    simp only[zr,qf] at hv;unfold pq at hv
    split at hv<;>simp only[reduceCtorEq,PQ.aslb.injEq,qj.injEq,and_true] at *
    rename_i sz len' b off k l k' m e1 e2;obtain⟨e1,e3⟩:=e1;subst e1 e3;obtain⟨hx,hlo,hhi⟩:=e2
    split at hv
    ·rename_i hb;injection hv with hv;subst hv
     exact W2 T x lo hi' e i len hu hi b off k k' l m hx hlo hhi hb.1 hb.2.1 hb.2.2.1 hb.2.2.2 h
    ·cases hv
   ·cases ht
  ·cases ht
 ·rename_i T x hi'
  split at ht
  ·rename_i len e hu
   split at ht
   ·rename_i i hi;injection ht with ee;injection ee with e1 e2;subst e1 e2
    simp only[zr,qf] at hv;unfold pq at hv
    split at hv<;>simp only[reduceCtorEq,PQ.aslh.injEq,qj.injEq,and_true] at *
    rename_i sz len' b off k l e1 e2;obtain⟨e1,e3⟩:=e1;subst e1 e3;obtain⟨hx,hy⟩:=e2
    split at hv
    ·rename_i hb;injection hv with hv;subst hv
     exact W3 T x hi' e i len hu hi b off k l hx hy hb.1 hb.2.1 hb.2.2 h
    ·cases hv
   ·cases ht
  ·cases ht
 ·rename_i T x hi' mx'
  split at ht
  ·rename_i e hu
   split at ht
   ·rename_i i hi;injection ht with ee;injection ee with e1 e2;subst e1 e2
    simp only[zr,qf] at hv;unfold pq at hv
    split at hv<;>simp only[reduceCtorEq,qj.injEq,and_true] at *
    ·rename_i n ys k a k' b _ e2;obtain⟨hx,hh,hm⟩:=e2
     split at hv
     ·rename_i hb;obtain⟨rfl,rfl⟩:=hb;injection hv with hv;subst hv
      exact PA T x hi' mx' e i hu hi n ys k k' (.inl hx) hh hm h
     ·cases hv
    ·rename_i k a k' b _ e2;obtain⟨hx,hh,hm⟩:=e2
     split at hv
     ·rename_i hb;obtain⟨rfl,rfl⟩:=hb;injection hv with hv;subst hv
      exact PA T x hi' mx' e i hu hi 0 [] k k' (.inr ⟨hx,rfl,rfl⟩) hh hm h
     ·cases hv
   ·cases ht
  ·cases ht
 ·rename_i T x
  split at ht
  ·rename_i e hu;injection ht with ee;injection ee with e1 e2;subst e1 e2
   simp only[zr,qf] at hv;unfold pq at hv
   split at hv<;>simp only[reduceCtorEq,PQ.mki.injEq,qj.injEq,and_true] at *
   ·rename_i T2 b off e1 e2;subst e1;injection hv with hv;subst hv
    exact Kw T _ _ hu (by simp) x _ (.inl ⟨b,off,e2,rfl⟩) h
   ·rename_i T2 k n e1 e2;subst e1;injection hv with hv;subst hv
    exact Kw T _ _ hu (by simp) x _ (.inr ⟨k,n,e2,rfl⟩) h
  ·rename_i kk hu;injection ht with ee;injection ee with e1 e2;subst e1 e2
   simp only[zr,qf] at hv;unfold pq at hv
   split at hv<;>simp only[reduceCtorEq,PQ.mki.injEq,qj.injEq,and_true] at *
   ·rename_i T2 b off e1 e2;subst e1;injection hv with hv;subst hv
    exact Kw T _ _ hu (by simp) x _ (.inl ⟨b,off,e2,rfl⟩) h
   ·rename_i T2 k n e1 e2;subst e1;injection hv with hv;subst hv
    exact Kw T _ _ hu (by simp) x _ (.inr ⟨k,n,e2,rfl⟩) h
  ·cases ht
 ·rename_i x xT T
  split at ht
  ·rename_i kk hu;injection ht with ee;injection ee with e1 e2;subst e1 e2
   simp only[zr,qf] at hv;unfold pq at hv
   split at hv<;>simp only[reduceCtorEq,PQ.tas.injEq,qj.injEq,and_true] at *
   rename_i T2 T3 k n e1 e2;subst e1
   split at hv
   ·rename_i hT;subst hT;injection hv with hv;subst hv
    exact qP _ _ _ kk hu x k n e2 h
   ·cases hv
  ·cases ht
 ·cases ht
end
set_option linter.constructorNameAsVariable false
def Da (k:List UInt8):List (List UInt8×AV)->Option AV
 | []=>none
 | e::r=>if e.1=k then some e.2 else Da k r
def Cz (k:List UInt8) (v:AV):List (List UInt8×AV)->List (List UInt8×AV)
 | []=>[(k,v)]
 | e::r=>if e.1=k then (k,v)::r else e::Cz k v r
def Ft (z:AV) (ok:Bool):Option AV->AV
 | some v=>if ok then .tup [v,.b true] else v
 | none=>if ok then .tup [z,.b false] else z
theorem Zl (l m:List UInt8):Instr.sameNow .string (.string ⟨l.toArray⟩) (.string ⟨m.toArray⟩)=some (decide (m=l)):=by
 obtain⟨r,hr,hi⟩:=MapKept.sameNow_of_keys (d:=.string) (a:=.string ⟨l.toArray⟩) (b:=.string ⟨m.toArray⟩) (by simp[MapKept.IsKey]) (by simp[MapKept.IsKey]);rw[hr]
 congr 1
 by_cases c:m=l
 ·rw[decide_eq_true c];exact hi.2 (by rw[c])
 ·rw[decide_eq_false c]
  cases r with
  | false=>rfl
  | true=>
   have:=hi.1 rfl;simp only[Value.string.injEq,ByteArray.mk.injEq] at this;exact absurd (by simpa using this.symm) c
theorem JM {α β:Type} (f:α->β) (g:α->α) (c:β) (h:∀x,f (g x)=c):∀(l:List α) (j:Nat),(l.modify j g).map f=(l.map f).set j c
 | [],j=>by simp
 | a::l,0=>by simp[h]
 | a::l,j+1=>by simp[JM f g c h l j]
theorem ND {G:Gh} {I:Ak} (k:List UInt8):∀(es:List (List UInt8×AV)) (en:List MapEntry) (i:Nat),en.map (·.key)=es.map (fun e=>Value.string ⟨e.1.toArray⟩)->Ac G I (es.map (·.2)) (en.map (·.val)) ->
  (Da k es=none/\Instr.findNow .string (.string ⟨k.toArray⟩) en i=some none/\Cz k .u es=es++[(k,.u)]) \/
  (∃(v:AV) (y:Value) (j:Nat) (e:MapEntry),Da k es=some v/\Instr.findNow .string (.string ⟨k.toArray⟩) en i=some (some (i+j,y))/\Ab G I v y/\en[j]? = some e/\e.key=.string ⟨k.toArray⟩/\e.val=y/\∀u,Cz k u es=es.set j (k,u))
 | [],[],i,_,_=>.inl ⟨rfl,rfl,rfl⟩
 | [],e::en,i,hk,_=>by simp at hk
 | a::es,[],i,hk,_=>by simp at hk
 | a::es,e::en,i,hk,hd=>by
  simp only[zr,qj.injEq] at hk;simp only[zr,Ac] at hd;obtain⟨y,ys,h1,h2,h3⟩:=hd;injection h1 with h1 h4
  subst h1 h4;have hs:Instr.sameNow .string (.string ⟨k.toArray⟩) e.key=some (decide (a.1=k)):=by rw[hk.1];exact Zl k a.1
  by_cases c:a.1=k
  ·refine .inr ⟨a.2,e.val,0,e,by simp[Da,c],?_,h2,rfl,by rw[hk.1,c],rfl,fun u=>by simp[Cz,c]⟩;simp only[Instr.findNow,hs,decide_eq_true c]
   rfl
  ·have hf:Instr.findNow .string (.string ⟨k.toArray⟩) (e::en) i=Instr.findNow .string (.string ⟨k.toArray⟩) en (i+1):=by
    rw[Instr.findNow,hs,decide_eq_false c]
   rcases ND k es en (i+1) hk.2 h3 with ⟨q1,q2,q3⟩|⟨v,y,j,e',q1,q2,q3,q4,q5,q6,q7⟩
   ·exact .inl ⟨by simp[Da,c,q1],by rw[hf,q2],by simp[Cz,c,q3]⟩
   ·exact .inr ⟨v,y,j+1,e',by simp[Da,c,q1],by rw[hf,q2];congr 3;omega,q3,by simpa using q4,q5,q6,fun u=>by simp[Cz,c,q7]⟩
section
variable {P:Program} {C:Cx} {objs:List OB} {tm:List AV} {K:List OB->AV->Prop} {type:TypeId}
theorem Ws (T:TypeId) (h:K (objs++[.mp []]) (.m objs.length)):AA P C (.makeMap T none) type objs tm K:=by
 intro G I a w hin hm hd op next Q ho ht hn;obtain⟨G',k1,k2,k3,k4⟩:=Mu false hin hm;refine CK (w':=w.alloc (.map #[] 0)) (y:=.map (some w.heap.size)) ?_ (hn _ _ _ _ _ _ h k1 (Ak.le.refl I) k2 k3 k4);unfold execOp;rw[ho];simp[run_makeMap]
theorem Wt (T:TypeId) (x:Operand) (kt e:TypeId) (hu:P.underlying T=some (.map kt e)) (k:IntKind) (n:Int) (hx:(Ad x).ev tm=.i k n) (h:K (objs++[.mp []]) (.m objs.length)):AA P C (.makeMap T (some x)) type objs tm K:=by
 intro G I a w hin hm hd op next Q ho ht hn;have e1:=Aq hd x;rw[hx] at e1;simp only[Ab] at e1;obtain⟨G',k1,k2,k3,k4⟩:=Mu false hin hm;refine CK (w':=w.alloc (.map #[] 0)) (y:=.map (some w.heap.size)) ?_ (hn _ _ _ _ _ _ h k1 (Ak.le.refl I) k2 k3 k4);have hr:(Instr.makeMap T (some (a.eval x))).run P w=.ok (.map (some w.heap.size)) (w.alloc (.map #[] 0)):=by
  rw[e1];unfold Instr.makeMap;simp only[Sem.run_bind,run_underlying hu w,asInt,asIntOf,Sem.run_pure,Result.andThen_ok]
  rfl
 unfold execOp;rw[ho];simp[hr]
theorem mX (T:TypeId) (x y:Operand) (ok:Bool) (kt e:TypeId) (i:TypeInfo) (z:Value) (hu:P.underlying T=some (.map kt e)) (hk:P.underlying kt=some .string) (hi:P.info? e=some i) (hz:i.zero=some z)
  (b:Nat) (es:List (List UInt8×AV)) (k:List UInt8) (hx:(Ad x).ev tm=.m b) (hb:objs[b]? = some (.mp es)) (hy:(Ad y).ev tm=.s k)
  (h:K objs (Ft (DD z) ok (Da k es))):AA P C (.lookup T x y ok) type objs tm K :=
 A9 _ h fun G I a w hm hd op ho ht=>by
  have e1:=Aq hd x;rw[hx] at e1;simp only[Ab] at e1;obtain⟨g,hg,e1⟩:=e1;have e2:=Aq hd y;rw[hy] at e2;simp only[Ab] at e2;obtain⟨g',en,ck,k1,k2,k3⟩:=hm.map b false es hb;obtain rfl:g=g':=zx.inj (hg.symm.trans k1);have hzv:(zeroValue e).run P w=.ok z w:=by simp[zeroValue,typeInfo,Sem.run_bind,hi,hz,Sem.run]
  have hck:=MapKept.run_checkKey (P:=P) (w:=w) (k:=.string ⟨k.toArray⟩) hk (by simp[MapKept.IsKey]) en.isEmpty 9999;have hgo:=MapKept.run_getObj_map (P:=P) k2;rcases ND k es en.toList 0 k3.1 k3.2.1 with ⟨q1,q2,_⟩|⟨v,yv,j,e',q1,q2,q3,_⟩
  ·have hr:(Instr.lookup T (.map (some g)) (.string ⟨k.toArray⟩) ok).run P w=.ok (if ok then .tuple #[z,.bool false] else z) w:=by
    simp only[Instr.lookup,Instr.findKey,Sem.run_bind,run_underlying hu w,Result.andThen_ok,hgo,run_underlying hk w,q2,Sem.run_pure,hck,hzv]
   rw[q1];refine⟨_,by unfold execOp;rw[ho];simp only[e1,e2,hr,Sem.run_bind,Result.andThen_ok,Sem.run_pure];rfl,?_⟩
   cases ok
   ·exact Iu G I z
   ·simp only[Ft,if_true,Ab];exact⟨[z,.bool false],rfl,Ac.cons (Iu G I z) (Ac.cons (by simp[Ab]) Ac.nil)⟩
  ·have hr:(Instr.lookup T (.map (some g)) (.string ⟨k.toArray⟩) ok).run P w=.ok (if ok then .tuple #[yv,.bool true] else yv) w:=by
    simp only[Instr.lookup,Instr.findKey,Sem.run_bind,run_underlying hu w,Result.andThen_ok,hgo,run_underlying hk w,q2,Sem.run_pure,hck,hzv]
   rw[q1];refine⟨_,by unfold execOp;rw[ho];simp only[e1,e2,hr,Sem.run_bind,Result.andThen_ok,Sem.run_pure];rfl,?_⟩
   cases ok
   ·exact q3
   ·simp only[Ft,if_true,Ab];exact⟨[yv,.bool true],rfl,Ac.cons q3 (Ac.cons (by simp[Ab]) Ac.nil)⟩
theorem Py (o:Op) (T:TypeId) (x y v:Operand) (hor:o=.mapUpdate T x y v\/o=.insert T x y v) (kt e:TypeId) (hu:P.underlying T=some (.map kt e)) (hk:P.underlying kt=some .string)
  (b:Nat) (es:List (List UInt8×AV)) (k:List UInt8) (hx:(Ad x).ev tm=.m b) (hb:objs[b]? = some (.mp es)) (hy:(Ad y).ev tm=.s k) (hv:((Ad v).ev tm).one=true)
  (h:K (objs.set b (.mp (Cz k ((Ad v).ev tm) es))) .u):AA P C o type objs tm K:=by
 intro G I a w hin hm hd op next Q ho ht hn;have e1:=Aq hd x;rw[hx] at e1;simp only[Ab] at e1;obtain⟨g,hg,e1⟩:=e1;have e2:=Aq hd y;rw[hy] at e2;simp only[Ab] at e2;have e3:=Aq hd v;have e4:=ME e3 hv;obtain⟨g',en,ck,k1,k2,k3,k4,k5,_⟩:=hm.map b false es hb;obtain rfl:g=g':=zx.inj (hg.symm.trans k1);have hck:=MapKept.run_checkKey (P:=P) (w:=w) (k:=.string ⟨k.toArray⟩) hk (by simp[MapKept.IsKey]) false 9999;have hgo:=MapKept.run_getObj_map (P:=P) k2;have hglt:g<w.heap.size:=(Array.getElem?_eq_some_iff.1 k2).1;have fin:∀(en':Array MapEntry) (ck':Nat),(Instr.mapUpdate T (.map (some g)) (.string ⟨k.toArray⟩) (a.eval v)).run P w=.ok () { w with heap:=w.heap.setIfInBounds g (.map en' ck') }->Gq false G I (Cz k ((Ad v).ev tm) es) en'.toList->op.wp P a w next Q:=by
  intro en' ck' hr he;have hgb:w.grownBy { w with heap:=w.heap.setIfInBounds g (.map en' ck') } (some g):=by
   refine⟨rfl,rfl,rfl,by simp,fun j hj hne=>?_⟩;show (w.heap.setIfInBounds g (.map en' ck'))[j]? = _;rw[Array.getElem?_setIfInBounds_ne (fun e=>hne (by rw[e]))]
  obtain⟨s1,s2⟩:=PJ hin hm b g false es _ en' ck' hb hg hgb (by show (w.heap.setIfInBounds g (.map en' ck'))[g]? = _;rw[Array.getElem?_setIfInBounds_self_of_lt hglt]) he;refine K9 (w':={ w with heap:=w.heap.setIfInBounds g (.map en' ck') }) ?_ (hn _ .u undef G I _ h (Gh.le.refl G) (Ak.le.refl I) s1 s2 (by simp[Ab]));rcases hor with rfl|rfl
  ·unfold execOp;rw[ho];simp only[e1,e2,hr,Sem.run_bind,Result.andThen_ok,Sem.run_pure]
  ·unfold execOp;rw[ho];simp only[e1,e2,hr,Sem.run_bind,Result.andThen_ok,Sem.run_pure]
 rcases ND k es en.toList 0 k3 k4 with ⟨q1,q2,q3⟩|⟨v',yv,j,e',q1,q2,q3,q4,q5,q6,q7⟩
 ·refine fin (en.push { key:=.string ⟨k.toArray⟩,val:=a.eval v,born:=ck }) (ck+1) ?_ ?_
  ·simp only[Instr.mapUpdate,Instr.findKey,Sem.run_bind,run_underlying hu w,Result.andThen_ok,hgo,run_underlying hk w,q2,Sem.run_pure,hck];exact MapKept.run_setObj_map _ k2
  ·have q3':∀u,Cz k u es=es++[(k,u)]:=by
    have:∀(u:AV) (l:List (List UInt8×AV)),Da k l=none->Cz k u l=l++[(k,u)]:=by
     intro u l
     induction l with
     | nil=>intro _;rfl
     | cons a l ih=>
      intro hl;unfold Da at hl
      split at hl
      ·cases hl
      ·rename_i c;simp[Cz,c,ih hl]
    exact fun u=>this u es q1
   rw[q3'];refine⟨by simp[k3,B2],?_,?_,fun h=>by cases h⟩
   ·simp only[Array.toList_push,List.map_append,zr,qf];exact Ac.append k4 (Ac.cons e3 Ac.nil)
   ·intro u hu;simp only[Array.toList_push,List.map_append,zr,qf,zw,xi] at hu;rcases hu with hu|rfl
    ·exact k5 u hu
    ·exact e4
 ·refine fin (en.modify (0+j) fun e=>{ e with key:=.string ⟨k.toArray⟩,val:=a.eval v }) ck ?_ ?_
  ·have hkey:(((en[0+j]?).map (·.key)).getD (.string ⟨k.toArray⟩))=.string ⟨k.toArray⟩:=by
    rw[zz];have:en[j]? = some e':=by simpa using q4
    rw[this];simp[q5]
   have hst:(Instr.keyThatStays (.string ⟨k.toArray⟩) (.string ⟨k.toArray⟩)).run P w=.ok (.string ⟨k.toArray⟩) w:=by
    have:Instr.sameBits 10000 (.string ⟨k.toArray⟩) (.string ⟨k.toArray⟩)=true:=by
     show ((⟨k.toArray⟩:ByteArray)==⟨k.toArray⟩)=true;exact MapKept.bytes_beq _ _ |>.2 rfl
    unfold Instr.keyThatStays;rw[if_pos this];rfl
   simp only[Instr.mapUpdate,Instr.findKey,Sem.run_bind,run_underlying hu w,Result.andThen_ok,hgo,run_underlying hk w,q2,Sem.run_pure,hck,hkey,hst];exact MapKept.run_setObj_map _ k2
  ·rw[q7,zz];have hl:=k4.length;simp only[jg] at hl;have hj:j<en.toList.length:=by
    rcases zo j en.toList.length with h0|h0
    ·exact h0
    ·rw[qg h0] at q4;cases q4
   have ek:(en.modify j fun e=>{ e with key:=.string ⟨k.toArray⟩,val:=a.eval v }).toList.map (·.key)=(en.toList.map (·.key)).set j (.string ⟨k.toArray⟩):=by
    rw[Array.toList_modify];exact JM _ (fun (q:MapEntry)=>{ q with key:=.string ⟨k.toArray⟩,val:=a.eval v }) _ (fun _=>rfl) _ _
   have ev':(en.modify j fun e=>{ e with key:=.string ⟨k.toArray⟩,val:=a.eval v }).toList.map (·.val)=(en.toList.map (·.val)).set j (a.eval v):=by
    rw[Array.toList_modify];exact JM _ (fun (q:MapEntry)=>{ q with key:=.string ⟨k.toArray⟩,val:=a.eval v }) _ (fun _=>rfl) _ _
   refine⟨?_,?_,?_,fun h=>by cases h⟩
   ·rw[ek,k3,List.map_set];rfl
   ·rw[ev',List.map_set];exact Ac.set j k4 e3
   ·intro u hu;rw[ev'] at hu;rcases List.mem_or_eq_of_mem_set hu with hu|rfl
    ·exact k5 u hu
    ·exact e4
end
set_option linter.constructorNameAsVariable false
def E9 (P:Program) (kt:TypeId):Bool :=
 match P.underlying kt with
 | some (.struct fs)=>match fs.toList with
  | [f, g] => decide (P.keyType kt = true ∧ P.keyTypeAt 3 kt = true ∧ P.tiled 3 kt = true ∧ f.name ≠ "_" ∧ g.name ≠ "_" ∧ f.offset = 0 ∧ g.offset = 1 ∧ P.cellsOf kt = 2 ∧ P.cellsOf f.type = 1 ∧ P.cellsOf g.type = 1 ∧ 0 < P.types.size) && (match P.underlying f.type with | some .string => true | _ => false) && (match P.underlying g.type with | some (.int .i64) => true | _ => false)
  | _=>false
 | _=>false
def FP:AV->Option (List UInt8)
 | .agg [.s h,.i .i64 (.ofNat n)]=>if n<65536/\h.length<=1000000 then some (UInt8.ofNat (n / 256)::UInt8.ofNat (n % 256)::h) else none
 | _=>none
theorem P7 {G:Gh} {I:Ak} {Y:AV} {y:Value} {k:List UInt8} (h:FP Y=some k) (hd:Ab G I Y y):y=B2 true k/\FQ k:=by
 unfold FP at h
 split at h
 ·rename_i t n
  split at h
  ·rename_i c;injection h with h;subst h
   refine⟨?_,_,_,_,rfl,c.2⟩;simp only[Ab,Ac] at hd;obtain⟨ys,rfl,⟨y1,r1,rfl,rfl,y2,r2,rfl,rfl,rfl⟩,_⟩:=hd;have e:(UInt8.ofNat (n / 256)).toNat*256+(UInt8.ofNat (n % 256)).toNat=n:=by
    rw[UInt8.toNat_ofNat',UInt8.toNat_ofNat'];omega
   simp only[B2,e];rfl
  ·cases h
 ·cases h
theorem X3 {a k:List UInt8} (ha:FQ a) (hk:FQ k) (h:B2 true a=B2 true k):a=k:=by
 obtain⟨x,y,l,rfl,_⟩:=ha;obtain⟨x',y',l',rfl,_⟩:=hk;simp only[B2,Value.agg.injEq,Array.mk.injEq,qj.injEq,Value.string.injEq,ByteArray.mk.injEq,Value.int.injEq,and_true,true_and] at h;obtain⟨h1,h2⟩:=h;have b1:=x.toNat_lt;have b2:=y.toNat_lt;have b3:=x'.toNat_lt;have b4:=y'.toNat_lt;have e1:x.toNat=x'.toNat:=by omega
 have e2:y.toNat=y'.toNat:=by omega
 rw[UInt8.toNat_inj.1 e1,UInt8.toNat_inj.1 e2]
 congr 2
theorem KJ {P:Program} {kt:TypeId} (h:E9 P kt=true) {c:List UInt8} (hc:FQ c):∃l,keyOf P kt (B2 true c)=some l:=by
 obtain⟨x,y,l,rfl,hl⟩:=hc;unfold E9 at h
 split at h
 ·rename_i fs hu
  split at h
  ·rename_i f g hfs;simp only[Bool.and_eq_true,decide_eq_true_eq] at h;obtain⟨⟨⟨q1,q2,q3,q4,q5,q6,q7,q8,q9,q10,q11⟩,h1⟩,h2⟩:=h
   split at h1
   ·rename_i e1
    split at h2
    ·rename_i e2;obtain⟨d,hd⟩:∃d,P.types.size=d+1:=⟨P.types.size - 1,by omega⟩;have hb:((x.toNat*256+y.toNat:Nat):Int)<=65535:=by have:=x.toNat_lt;have:=y.toNat_lt;omega
     have hb0:(0:Int)<=((x.toNat*256+y.toNat:Nat):Int):=Int.natCast_nonneg _;generalize hN:((x.toNat*256+y.toNat:Nat):Int)=N at hb hb0;have hw:(Lit.int .i64 N).wf=true:=by
      simp only[Lit.wf,Bool.and_eq_true,decide_eq_true_eq];exact⟨Int.le_trans (by decide) hb0,Int.le_trans hb (by decide)⟩
     have hm:(⟨l.toArray⟩:ByteArray).size<=maxLen:=by
      show l.length<=2 ^ 63 - 1;omega
     have k1:P.keyLits (d+1) f.type [.string ⟨l.toArray⟩]=some [.string l]:=by
      unfold Program.keyLits;simp only[e1,hm,if_true]
     have k2:P.keyLits (d+1) g.type [.int .i64 N]=some [.int .i64 N]:=by
      unfold Program.keyLits;simp only[e2,hw,true_and,if_true]
     have ha : fs.all (fun f => f.name != "_") = true := by
      rw[<-Array.all_toList,hfs];simp[q4,q5]
     have k3:P.keyLits (d+1+1) kt [.string ⟨l.toArray⟩,.int .i64 N]=some [.string l,.int .i64 N]:=by
      unfold Program.keyLits;simp only[hu];rw[if_pos ⟨by rw[q8];rfl,ha⟩,hfs];simp[List.mapM_cons,q6,q7,q9,q10,k1,k2]
     refine⟨.string (keyBytes [.string l,.int .i64 N]),?_⟩;unfold keyOf;simp only[hu,B2,hN,Value.formed,q1,q8,Value.cells,hd,Bool.true_and];rw[if_pos (by rfl),k3];rfl
    ·cases h2
   ·cases h1
  ·cases h
 ·cases h
theorem Nc {P:Program} {kt:TypeId} (h:E9 P kt=true):P.keyTypeAt 3 kt=true/\P.tiled 3 kt=true/\(match P.underlying kt with|some (.array _ _)|some (.struct _)=>true|_=>false)=true:=by
 unfold E9 at h
 split at h
 ·rename_i fs hu
  split at h
  ·simp only[Bool.and_eq_true,decide_eq_true_eq] at h;exact⟨h.1.1.2.1,h.1.1.2.2.1,by rw[hu]⟩
  ·cases h
 ·cases h
theorem mG {P:Program} {kt:TypeId} (h:E9 P kt=true) (w:World) {a k:List UInt8} (ha:FQ a) (hk:FQ k):(Op.equal kt (B2 true k) (B2 true a)).run P w=.ok (decide (a=k)) w:=by
 obtain⟨h1,h2,h3⟩:=Nc h;obtain⟨la,ea⟩:=KJ h ha;obtain⟨lk,ek⟩:=KJ h hk;obtain⟨r,hr,hi⟩:=run_equal_deep w (m:=3) (by decide) h1 h3 ek ea;rw[hr]
 congr 1
 by_cases c:a=k
 ·subst c;rw[decide_eq_true rfl];exact hi.2 (zx.inj (ek.symm.trans ea))
 ·rw[decide_eq_false c]
  cases r with
  | false=>rfl
  | true=>
   have:=hi.1 rfl;subst this;exact absurd (X3 ha hk (keyOf_inj_deep h2 h3 ea ek)) c
theorem MI {P:Program} {kt:TypeId} (h:E9 P kt=true) (w:World) {G:Gh} {I:Ak} (k:List UInt8) (hk:FQ k):∀(es:List (List UInt8×AV)) (en:List MapEntry) (i:Nat),en.map (·.key)=es.map (fun e=>B2 true e.1)->Ac G I (es.map (·.2)) (en.map (·.val))->(∀e∈es,FQ e.1) ->
  (Da k es=none/\(Instr.findAsking kt (B2 true k) en i).run P w=.ok none w) \/
  (∃(v:AV) (y:Value) (j:Nat) (e:MapEntry),Da k es=some v/\(Instr.findAsking kt (B2 true k) en i).run P w=.ok (some (i+j,y)) w/\Ab G I v y/\en[j]? = some e/\e.key=B2 true k/\e.val=y/\∀u,Cz k u es=es.set j (k,u))
 | [],[],i,_,_,_=>.inl ⟨rfl,by simp[Instr.findAsking]⟩
 | [],e::en,i,hk',_,_=>by simp at hk'
 | a::es,[],i,hk',_,_=>by simp at hk'
 | a::es,e::en,i,hk',hd,hc=>by
  simp only[zr,qj.injEq] at hk';simp only[zr,Ac] at hd;obtain⟨y,ys,h1,h2,h3⟩:=hd;injection h1 with h1 h4
  subst h1 h4;have hs:(Op.equal kt (B2 true k) e.key).run P w=.ok (decide (a.1=k)) w:=by rw[hk'.1];exact mG h w (hc a (by simp)) hk
  by_cases c:a.1=k
  ·refine .inr ⟨a.2,e.val,0,e,by simp[Da,c],?_,h2,rfl,by rw[hk'.1,c],rfl,fun u=>by simp[Cz,c]⟩;rw[decide_eq_true c] at hs;simp[Instr.findAsking,hs]
  ·rw[decide_eq_false c] at hs;have hf:(Instr.findAsking kt (B2 true k) (e::en) i).run P w=(Instr.findAsking kt (B2 true k) en (i+1)).run P w:=by
    simp[Instr.findAsking,hs]
   rcases MI h w k hk es en (i+1) hk'.2 h3 (fun x hx=>hc x (by simp[hx])) with ⟨p1,p2⟩|⟨v,y,j,e',p1,p2,p3,p4,p5,p6,p7⟩
   ·exact .inl ⟨by simp[Da,c,p1],by rw[hf,p2]⟩
   ·exact .inr ⟨v,y,j+1,e',by simp[Da,c,p1],by rw[hf,p2];congr 3;omega,p3,by simpa using p4,p5,p6,fun u=>by simp[Cz,c,p7]⟩
section
variable {P:Program} {C:Cx} {objs:List OB} {tm:List AV} {K:List OB->AV->Prop} {type:TypeId}
theorem qF (T:TypeId) (h:K (objs++[.mpk true []]) (.m objs.length)):AA P C (.makeMap T none) type objs tm K:=by
 intro G I a w hin hm hd op next Q ho ht hn;obtain⟨G',k1,k2,k3,k4⟩:=Mu true hin hm;refine CK (w':=w.alloc (.map #[] 0)) (y:=.map (some w.heap.size)) ?_ (hn _ _ _ _ _ _ h k1 (Ak.le.refl I) k2 k3 k4);unfold execOp;rw[ho];simp[run_makeMap]
theorem qE (T:TypeId) (x y:Operand) (ok:Bool) (kt e:TypeId) (i:TypeInfo) (z:Value) (hu:P.underlying T=some (.map kt e)) (hk:E9 P kt=true) (hi:P.info? e=some i) (hz:i.zero=some z)
  (b:Nat) (es:List (List UInt8×AV)) (k:List UInt8) (hx:(Ad x).ev tm=.m b) (hb:objs[b]? = some (.mpk true es)) (hy:FP ((Ad y).ev tm)=some k)
  (h:K objs (Ft (DD z) ok (Da k es))):AA P C (.lookup T x y ok) type objs tm K :=
 A9 _ h fun G I a w hm hd op ho ht=>by
  have e1:=Aq hd x;rw[hx] at e1;simp only[Ab] at e1;obtain⟨g,hg,e1⟩:=e1;obtain⟨e2,hkc⟩:=P7 hy (Aq hd y);obtain⟨w1,w2,w3⟩:=Nc hk;obtain⟨lit,hlit⟩:=KJ hk hkc;obtain⟨g',en,ck,k1,k2,k3⟩:=hm.map b true es hb;obtain rfl:g=g':=zx.inj (hg.symm.trans k1);have hzv:(zeroValue e).run P w=.ok z w:=by simp[zeroValue,typeInfo,Sem.run_bind,hi,hz,Sem.run]
  have hck:=(deep_law (m:=3) (by decide) w1 w2 w3).check w en.isEmpty hlit;have hgo:=MapKept.run_getObj_map (P:=P) k2;rcases MI hk w k hkc es en.toList 0 k3.1 k3.2.1 (k3.2.2.2 rfl) with ⟨q1,q2⟩|⟨v,yv,j,e',q1,q2,q3,_⟩
  ·have hr:(Instr.lookup T (.map (some g)) (B2 true k) ok).run P w=.ok (if ok then .tuple #[z,.bool false] else z) w:=by
    simp only[Instr.lookup,Sem.run_bind,run_underlying hu w,Result.andThen_ok,hgo,run_findKey_eq w w3,q2,Sem.run_pure,hck,hzv]
   rw[q1];refine⟨_,by unfold execOp;rw[ho];simp only[e1,e2,hr,Sem.run_bind,Result.andThen_ok,Sem.run_pure];rfl,?_⟩
   cases ok
   ·exact Iu G I z
   ·simp only[Ft,if_true,Ab];exact⟨[z,.bool false],rfl,Ac.cons (Iu G I z) (Ac.cons (by simp[Ab]) Ac.nil)⟩
  ·have hr:(Instr.lookup T (.map (some g)) (B2 true k) ok).run P w=.ok (if ok then .tuple #[yv,.bool true] else yv) w:=by
    simp only[Instr.lookup,Sem.run_bind,run_underlying hu w,Result.andThen_ok,hgo,run_findKey_eq w w3,q2,Sem.run_pure,hck,hzv]
   rw[q1];refine⟨_,by unfold execOp;rw[ho];simp only[e1,e2,hr,Sem.run_bind,Result.andThen_ok,Sem.run_pure];rfl,?_⟩
   cases ok
   ·exact q3
   ·simp only[Ft,if_true,Ab];exact⟨[yv,.bool true],rfl,Ac.cons q3 (Ac.cons (by simp[Ab]) Ac.nil)⟩
theorem QD (o:Op) (T:TypeId) (x y v:Operand) (hor:o=.mapUpdate T x y v\/o=.insert T x y v) (kt e:TypeId) (hu:P.underlying T=some (.map kt e)) (hk:E9 P kt=true)
  (b:Nat) (es:List (List UInt8×AV)) (k:List UInt8) (hx:(Ad x).ev tm=.m b) (hb:objs[b]? = some (.mpk true es)) (hy:FP ((Ad y).ev tm)=some k) (hv:((Ad v).ev tm).one=true)
  (h:K (objs.set b (.mpk true (Cz k ((Ad v).ev tm) es))) .u):AA P C o type objs tm K:=by
 intro G I a w hin hm hd op next Q ho ht hn;have e1:=Aq hd x;rw[hx] at e1;simp only[Ab] at e1;obtain⟨g,hg,e1⟩:=e1;obtain⟨e2,hkc⟩:=P7 hy (Aq hd y);obtain⟨w1,w2,w3⟩:=Nc hk;obtain⟨lit,hlit⟩:=KJ hk hkc;have e3:=Aq hd v;have e4:=ME e3 hv;obtain⟨g',en,ck,k1,k2,k3,k4,k5,k6⟩:=hm.map b true es hb;obtain rfl:g=g':=zx.inj (hg.symm.trans k1);have hck:=(deep_law (m:=3) (by decide) w1 w2 w3).check w false hlit;have hgo:=MapKept.run_getObj_map (P:=P) k2;have hglt:g<w.heap.size:=(Array.getElem?_eq_some_iff.1 k2).1;have fin:∀(en':Array MapEntry) (ck':Nat),(Instr.mapUpdate T (.map (some g)) (B2 true k) (a.eval v)).run P w=.ok () { w with heap:=w.heap.setIfInBounds g (.map en' ck') }->Gq true G I (Cz k ((Ad v).ev tm) es) en'.toList->op.wp P a w next Q:=by
  intro en' ck' hr he;have hgb:w.grownBy { w with heap:=w.heap.setIfInBounds g (.map en' ck') } (some g):=by
   refine⟨rfl,rfl,rfl,by simp,fun j hj hne=>?_⟩;show (w.heap.setIfInBounds g (.map en' ck'))[j]? = _;rw[Array.getElem?_setIfInBounds_ne (fun e=>hne (by rw[e]))]
  obtain⟨s1,s2⟩:=PJ hin hm b g true es _ en' ck' hb hg hgb (by show (w.heap.setIfInBounds g (.map en' ck'))[g]? = _;rw[Array.getElem?_setIfInBounds_self_of_lt hglt]) he;refine K9 (w':={ w with heap:=w.heap.setIfInBounds g (.map en' ck') }) ?_ (hn _ .u undef G I _ h (Gh.le.refl G) (Ak.le.refl I) s1 s2 (by simp[Ab]));rcases hor with rfl|rfl
  ·unfold execOp;rw[ho];simp only[e1,e2,hr,Sem.run_bind,Result.andThen_ok,Sem.run_pure]
  ·unfold execOp;rw[ho];simp only[e1,e2,hr,Sem.run_bind,Result.andThen_ok,Sem.run_pure]
 have hall:∀u,∀e∈Cz k u es,FQ e.1:=by
  intro u;have k7:=k6 rfl;clear hb k6 k3 k4 h fin
  induction es with
  | nil=>intro e he;simp only[Cz,xi] at he;subst he;exact hkc
  | cons a l ih=>
   intro e he;unfold Cz at he
   split at he
   ·rcases zv.1 he with rfl|he
    ·exact hkc
    ·exact k7 e (by simp[he])
   ·rcases zv.1 he with rfl|he
    ·exact k7 _ (by simp)
    ·exact ih (fun e he=>k7 e (by simp[he])) e he
 rcases MI hk w k hkc es en.toList 0 k3 k4 (k6 rfl) with ⟨q1,q2⟩|⟨v',yv,j,e',q1,q2,q3,q4,q5,q6,q7⟩
 ·refine fin (en.push { key:=B2 true k,val:=a.eval v,born:=ck }) (ck+1) ?_ ?_
  ·simp only[Instr.mapUpdate,Sem.run_bind,run_underlying hu w,Result.andThen_ok,hgo,run_findKey_eq w w3,q2,Sem.run_pure,hck];exact MapKept.run_setObj_map _ k2
  ·have q3':∀u,Cz k u es=es++[(k,u)]:=by
    have:∀(u:AV) (l:List (List UInt8×AV)),Da k l=none->Cz k u l=l++[(k,u)]:=by
     intro u l
     induction l with
     | nil=>intro _;rfl
     | cons a l ih=>
      intro hl;unfold Da at hl
      split at hl
      ·cases hl
      ·rename_i c;simp[Cz,c,ih hl]
    exact fun u=>this u es q1
   have hal:=hall ((Ad v).ev tm);rw[q3'] at hal ⊢;refine⟨by simp[k3],?_,?_,fun _=>hal⟩
   ·simp only[Array.toList_push,List.map_append,zr,qf];exact Ac.append k4 (Ac.cons e3 Ac.nil)
   ·intro u hu;simp only[Array.toList_push,List.map_append,zr,qf,zw,xi] at hu;rcases hu with hu|rfl
    ·exact k5 u hu
    ·exact e4
 ·refine fin (en.modify (0+j) fun e=>{ e with key:=B2 true k,val:=a.eval v }) ck ?_ ?_
  ·have hkey:(((en[0+j]?).map (·.key)).getD (B2 true k))=B2 true k:=by
    rw[zz];have:en[j]? = some e':=by simpa using q4
    rw[this];simp[q5]
   have hst:=(deep_law (m:=3) (by decide) w1 w2 w3).stays w hlit;simp only[Instr.mapUpdate,Sem.run_bind,run_underlying hu w,Result.andThen_ok,hgo,run_findKey_eq w w3,q2,Sem.run_pure,hck,hkey,hst];exact MapKept.run_setObj_map _ k2
  ·have hal:=hall ((Ad v).ev tm);rw[q7] at hal ⊢;rw[zz];have hl:=k4.length;simp only[jg] at hl;have hj:j<en.toList.length:=by
    rcases zo j en.toList.length with h0|h0
    ·exact h0
    ·rw[qg h0] at q4;cases q4
   have ek:(en.modify j fun e=>{ e with key:=B2 true k,val:=a.eval v }).toList.map (·.key)=(en.toList.map (·.key)).set j (B2 true k):=by
    rw[Array.toList_modify];exact JM _ (fun (q:MapEntry)=>{ q with key:=B2 true k,val:=a.eval v }) _ (fun _=>rfl) _ _
   have ev':(en.modify j fun e=>{ e with key:=B2 true k,val:=a.eval v }).toList.map (·.val)=(en.toList.map (·.val)).set j (a.eval v):=by
    rw[Array.toList_modify];exact JM _ (fun (q:MapEntry)=>{ q with key:=B2 true k,val:=a.eval v }) _ (fun _=>rfl) _ _
   refine⟨?_,?_,?_,fun _=>hal⟩
   ·rw[ek,k3,List.map_set]
   ·rw[ev',List.map_set];exact Ac.set j k4 e3
   ·intro u hu;rw[ev'] at hu;rcases List.mem_or_eq_of_mem_set hu with hu|rfl
    ·exact k5 u hu
    ·exact e4
end
inductive SOp where
 | mv (x:SV)
 | pick (c x y:SV)
 | alloc (T:Nat) (z:List AV)
 | box (T:Nat) (x:SV)
 | build (z:List AV) (ps:List (Nat×Nat×SV))
 | bslice (len:Nat) (z:List AV) (ps:List (Nat×Nat×SV))
 | bslo (E sz len:Nat) (z:List AV) (ps:List (Nat×Nat×SV))
 | load1 (x:SV)
 | loadn (sz:Nat) (x:SV)
 | store (sz:Nat) (x y:SV)
 | nck (x:SV)
 | bin (op:BinOp) (x y:SV)
 | beq (ne:Bool) (x y:SV)
 | eqs (ne:Bool) (et:ET) (x y:SV)
 | not (x:SV)
 | neg (x:SV)
 | cvi (k:IntKind) (x:SV)
 | cvs (x:SV)
 | cvbs (x:SV)
 | slcs (x:SV) (lo hi:Option SV)
 | fad (off:Nat) (x:SV)
 | fld1 (off:Nat) (x:SV)
 | fldn (off sz:Nat) (x:SV)
 | iad (sz:Nat) (x y:SV)
 | iada (sz len:Nat) (x y:SV)
 | iadr (sz:Nat) (x y:SV)
 | idx (x y:SV)
 | ext (x:SV) (k:Nat)
 | call (f:Nat) (args:List SV)
 | pcall (f:Nat) (args:List SV)
 | callv (x:SV) (args:List SV)
 | inv (tab:List (Nat×Nat)) (x:SV) (args:List SV)
 | app (E sz bytes:Nat) (x y:SV)
 | apps (E:Nat) (x y:SV)
 | lens (x:SV)
 | lenr (x:SV)
 | mks (E sz bytes:Nat) (x y:SV)
 | mkz (E bytes:Nat) (kd:IntKind) (z:Int) (x:SV)
 | capp (sz bytes:Nat) (x y:SV)
 | cappo (E sz bytes:Nat) (x y:SV)
 | trn (sz:Nat) (x y:SV)
 | mkf (f:Nat) (fs cs:List SV)
 | pu (q:PQ) (xs:List SV)
 | mkm0
 | mkm1 (x:SV)
 | lk (z:AV) (ok:Bool) (x y:SV)
 | mup (x y v:SV)
 | mph (q:Nat) (z:AV) (x y v:SV)
def EA (k:IntKind) (r:Int) (K:Int->Prop):Prop :=
 match k with
 | .i64=>(-9223372036854775808<=r/\r<=9223372036854775807)/\K r
 | k=>K (k.wrap r)
def Gv (tm:List AV) (d:Int):Option SV->Option Int
 | none=>some d
 | some x=>match x.ev tm with
  | .i _ n=>some n
  | _=>none
def Fx (op:BinOp) (x y:AV) (K:AV->Prop):Prop :=
 match x,y with
 | .i k m,.i k' n=>k=k' /\
  match op with
  | .add=>EA k (m+n) fun r=>K (.i k r)
  | .sub=>EA k (m - n) fun r=>K (.i k r)
  | .mul=>EA k (m*n) fun r=>K (.i k r)
  | .quo=>n≠0/\EA k (m.tdiv n) fun r=>K (.i k r)
  | .rem=>n≠0/\K (.i k (m.tmod n))
  | .eql=>K (.b (decide (m=n)))
  | .neq=>K (.b (decide (¬m=n)))
  | .lss=>K (.b (decide (m<n)))
  | .leq=>K (.b (decide (m<=n)))
  | .gtr=>K (.b (decide (n<m)))
  | .geq=>K (.b (decide (n<=m)))
  | _=>False
 | .s l,.s m=>
  match op with
  | .add=>l.length+m.length<=9223372036854775807/\K (.s (l++m))
  | .eql=>K (.b (decide (l=m)))
  | .neq=>K (.b (decide (¬l=m)))
  | _=>False
 | _,_=>False
def Ah (P:Program) [Tabs P] (so:SOp) (objs:List OB) (tm:List AV) (K:List OB->AV->Prop):Prop :=
 match so with
 | .mv x=>K objs (x.ev tm)
 | .pick c x y=>match c.ev tm with
  | .b t=>(t=true->K objs (x.ev tm))/\(t=false->K objs (y.ev tm))
  | _=>False
 | .alloc T z=>K (objs++[.box T z]) (.p objs.length 0)
 | .box T x=>(x.ev tm).flat=true/\K (objs++[.box T (x.ev tm).cells]) (.p objs.length 0)
 | .build z ps=>match D7 z (ps.map fun p=>(p.1,p.2.1,p.2.2.ev tm)) with
  | some cs=>K objs (.agg cs)
  | none=>False
 | .bslice len z ps=>match D7 z (ps.map fun p=>(p.1,p.2.1,p.2.2.ev tm)) with
  | some cs=>K objs (.row len cs)
  | none=>False
 | .bslo E sz len z ps=>match D7 z (ps.map fun p=>(p.1,p.2.1,p.2.2.ev tm)) with
  | some cs=>cs.length=len*sz/\K (objs++[.orow E sz 0 len cs]) (.orow objs.length 0)
  | none=>False
 | .load1 x=>match x.ev tm with
  | .p b off=>match objs[b]? with
   | some (.box _ cs)=>match cs[off]? with
    | some v=>K objs v
    | none=>False
   | _=>False
  | .prow xs j=>∃v,xs[j]? = some v/\K objs v
  | .porow b gen j=>match objs[b]? with
   | some (.orow _ _ gen' _ xs)=>gen'=gen/\∃v,xs[j]? = some v/\K objs v
   | _=>False
  | _=>False
 | .loadn sz x=>match x.ev tm with
  | .p b off=>match objs[b]? with
   | some (.box _ cs)=>off+sz<=cs.length/\K objs (.agg ((cs.drop off).take sz))
   | _=>False
  | .prow xs j=>j+sz<=xs.length/\K objs (.agg ((xs.drop j).take sz))
  | .porow b gen j=>match objs[b]? with
   | some (.orow _ _ gen' _ xs)=>(gen'=gen/\j+sz<=xs.length)/\K objs (.agg ((xs.drop j).take sz))
   | _=>False
  | _=>False
 | .store sz x y=>match x.ev tm with
  | .p b off=>match objs[b]? with
   | some (.box T cs)=>((y.ev tm).flat=true/\(y.ev tm).cells.length=sz/\off+sz<=cs.length)/\K (objs.set b (.box T (Cv cs off (y.ev tm).cells))) .u
   | _=>False
  | .porow b gen j=>match objs[b]? with
   | some (.orow E s gen' n xs)=>(gen'=gen/\(y.ev tm).flat=true/\(y.ev tm).cells.length=sz/\j+sz<=xs.length)/\K (objs.set b (.orow E s gen' n (Cv xs j (y.ev tm).cells))) .u
   | _=>False
  | _=>False
 | .nck x=>match x.ev tm with
  | .p b o=>K objs (.p b o)
  | .prow xs j=>K objs (.prow xs j)
  | .fn f fs cs=>K objs (.fn f fs cs)
  | .porow b gen j=>K objs (.porow b gen j)
  | _=>False
 | .bin op x y=>Fx op (x.ev tm) (y.ev tm) fun v=>K objs v
 | .beq ne x y=>match x.ev tm,y.ev tm with
  | .b l,.b m=>K objs (.b (if ne then !(l==m) else (l==m)))
  | _,_=>False
 | .eqs ne et x y=>match x.ev tm,y.ev tm with
  | .agg xs,.agg ys=>match Dp et (.agg xs) (.agg ys) with
   | some r=>K objs (.b (if ne then !r else r))
   | none=>False
  | _,_=>False
 | .not x=>match x.ev tm with
  | .b t=>K objs (.b (!t))
  | _=>False
 | .neg x=>match x.ev tm with
  | .i k n=>EA k (0 - n) fun r=>K objs (.i k r)
  | _=>False
 | .cvi k x=>match x.ev tm with
  | .i _ n=>K objs (.i k (k.wrap n))
  | _=>False
 | .cvs x=>match x.ev tm with
  | .s l=>K objs (.s l)
  | _=>False
 | .cvbs x=>match x.ev tm with
  | .orow b gen=>match objs[b]? with
   | some (.orow _ sz gen' _ xs)=>(gen'=gen/\sz=1)/\∃l,xs=Bf l/\K objs (.s l)
   | _=>False
  | .row n xs=>∃l,(xs=Bf l/\n=l.length)/\K objs (.s l)
  | .nil=>K objs (.s [])
  | .bsl b off n=>match objs[b]? with
   | some (.box _ cs)=>∃l,((cs.drop off).take n=Bf l/\l.length=n)/\K objs (.s l)
   | _=>False
  | _=>False
 | .slcs x lo hi=>match x.ev tm with
  | .s l=>match Gv tm 0 lo,Gv tm l.length hi with
   | some i,some j=>(0<=i/\i<=j/\j<=l.length)/\K objs (.s ((l.take j.toNat).drop i.toNat))
   | _,_=>False
  | _=>False
 | .fad off x=>match x.ev tm with
  | .p b o=>K objs (.p b (o+off))
  | .prow xs j=>K objs (.prow xs (j+off))
  | .porow b gen j=>K objs (.porow b gen (j+off))
  | _=>False
 | .fld1 off x=>match x.ev tm with
  | .agg cs=>match cs[off]? with
   | some v=>K objs v
   | none=>False
  | _=>False
 | .fldn off sz x=>match x.ev tm with
  | .agg cs=>K objs (.agg ((cs.drop off).take sz))
  | _=>False
 | .iad sz x y=>match x.ev tm,y.ev tm with
  | .row n xs,.i _ i=>(0<=i/\i<n/\n*sz<=xs.length)/\K objs (.prow xs (i.toNat*sz))
  | .orow b gen,.i _ i=>match objs[b]? with
   | some (.orow _ s gen' n _)=>(gen'=gen/\s=sz/\0<=i/\i<n)/\K objs (.porow b gen (i.toNat*sz))
   | _=>False
  | _,_=>False
 | .iadr sz x y=>match x.ev tm,y.ev tm with
  | .row n xs,.i _ i=>(0<=i/\i<n/\n*sz<=xs.length)/\K objs (.prow xs (i.toNat*sz))
  | _,_=>False
 | .iada sz len x y=>match x.ev tm,y.ev tm with
  | .p b off,.i _ i=>(0<=i/\i<len)/\K objs (.p b (off+i.toNat*sz))
  | _,_=>False
 | .idx x y=>match x.ev tm,y.ev tm with
  | .s l,.i _ n=>(0<=n/\n<l.length)/\K objs (.i .u8 ((l.getD n.toNat 0).toNat:Int))
  | _,_=>False
 | .ext x k=>match x.ev tm with
  | .tup vs=>match vs[k]? with
   | some v=>K objs v
   | none=>False
  | _=>False
 | .call f args=>Ai P f (args.map fun x=>x.ev tm) objs K
 | .pcall f args=>AE (args.map fun x=>x.ev tm)=true/\Ai P f (args.map fun x=>x.ev tm) [] fun _ r=>r.plain=true/\K objs r
 | .callv x args=>match x.ev tm with
  | .fn f fs cs => (∃ fn, P.funcs[f]? = some fn ∧ fn.body.isSome = true ∧ fn.name ≠ "runtime.NumGoroutine") ∧ Ai P f (fs ++ (args.map fun x => x.ev tm) ++ cs) objs K
  | _=>False
 | .inv tab x args=>match x.ev tm with
  | .ip T b off=>match tab.lookup T with
   | some f=>Ai P f (.p b off::(args.map fun x=>x.ev tm)) objs K
   | none=>False
  | _=>False
 | .app E sz bytes x y=>match Dk objs (y.ev tm) with
  | some (m,ys)=>match x.ev tm with
   | .orow b gen=>match objs[b]? with
    | some (.orow E' sz' gen' n xs)=>((E'=E/\sz'=sz/\gen'=gen)/\ys.length=m*sz/\(n+m)*bytes<=140737488355328/\n+m<=140737488355328)/\K (objs.set b (.orow E sz (gen+1) (n+m) (xs++ys))) (.orow b (gen+1))
    | _=>False
   | .nil=>(ys.length=m*sz/\m*bytes<=140737488355328/\m<=140737488355328)/\K (objs++[.orow E sz 0 m ys]) (.orow objs.length 0)
   | _=>False
  | none=>False
 | .capp sz bytes x y=>match x.ev tm,Dk [] (y.ev tm) with
  | .crow n xs,some (m,ys)=>((xs.length=n*sz/\ys.length=m*sz)/\0<m/\(n+m)*bytes<=140737488355328/\n+m<=140737488355328)/\K objs (.row (n+m) (xs++ys))
  | _,_=>False
 | .cappo E sz bytes x y=>match x.ev tm,Dk objs (y.ev tm) with
  | .crow n xs,some (m,ys)=>((xs.length=n*sz/\ys.length=m*sz)/\0<m/\(n+m)*bytes<=140737488355328/\n+m<=140737488355328)/\K (objs++[.orow E sz 0 (n+m) (xs++ys)]) (.orow objs.length 0)
  | _,_=>False
 | .apps E x y=>match y.ev tm with
  | .s l=>match x.ev tm with
   | .orow b gen=>match objs[b]? with
    | some (.orow E' sz' gen' n xs)=>((E'=E/\sz'=1/\gen'=gen)/\n+l.length<=140737488355328)/\K (objs.set b (.orow E 1 (gen+1) (n+l.length) (xs++Bf l))) (.orow b (gen+1))
    | _=>False
   | .nil=>l.length<=140737488355328/\K (objs++[.orow E 1 0 l.length (Bf l)]) (.orow objs.length 0)
   | _=>False
  | _=>False
 | .lens x=>match x.ev tm with
  | .s l=>K objs (.i .i64 l.length)
  | _=>False
 | .lenr x=>match x.ev tm with
  | .row n _=>K objs (.i .i64 n)
  | .nil=>K objs (.i .i64 0)
  | .zn _=>K objs (.i .i64 0)
  | .orow b gen=>match objs[b]? with
   | some (.orow _ _ gen' n _)=>gen'=gen/\K objs (.i .i64 n)
   | _=>False
  | _=>False
 | .mks E sz bytes x y=>match x.ev tm,y.ev tm with
  | .i _ l,.i _ c=>(l=0/\0<=c/\(bytes:Int)*c<=281474976710656/\c<=140737488355328)/\K (objs++[.orow E sz 0 0 []]) (.orow objs.length 0)
  | _,_=>False
 | .mkz E bytes kd z x=>match x.ev tm with
  | .i _ l=>(0<=l/\(bytes:Int)*l<=281474976710656/\l<=140737488355328)/\K (objs++[.orow E 1 0 l.toNat (qo l.toNat (.i kd z))]) (.orow objs.length 0)
  | _=>False
 | .trn sz x y=>match x.ev tm,y.ev tm with
  | .row n xs,.i _ j=>(0<=j/\j<=n)/\K objs (.row j.toNat (xs.take (j.toNat*sz)))
  | .nil,.i _ j=>j=0/\K objs .nil
  | .orow b gen,.i _ j=>match objs[b]? with
   | some (.orow E s gen' n xs)=>(gen'=gen/\s=sz/\0<=j/\j<=n)/\K (objs.set b (.orow E s (gen+1) j.toNat (xs.take (j.toNat*s)))) (.orow b (gen+1))
   | _=>False
  | _,_=>False
 | .mkf f fs cs=>K objs (.fn f (fs.map fun x=>x.ev tm) (cs.map fun x=>x.ev tm))
 | .pu q xs=>match pq q (xs.map fun x=>x.ev tm) with
  | some v=>K objs v
  | none=>False
 | .mkm0=>K (objs++[.mp []]) (.m objs.length)
 | .mkm1 x=>match x.ev tm with
  | .i _ _=>K (objs++[.mp []]) (.m objs.length)
  | _=>False
 | .lk z ok x y=>match x.ev tm,y.ev tm with
  | .m b,.s l=>match objs[b]? with
   | some (.mp es)=>K objs (Ft z ok (Da l es))
   | _=>False
  | _,_=>False
 | .mup x y v=>match x.ev tm,y.ev tm with
  | .m b,.s l=>match objs[b]? with
   | some (.mp es)=>(v.ev tm).one=true/\K (objs.set b (.mp (Cz l (v.ev tm) es))) .u
   | _=>False
  | _,_=>False
 | .mph q z x y v=>match q with
  | 0=>K (objs++[.mpk true []]) (.m objs.length)
  | 1=>match x.ev tm,FP (y.ev tm) with
   | .m b,some l=>match objs[b]? with
    | some (.mpk true es)=>(v.ev tm).one=true/\K (objs.set b (.mpk true (Cz l (v.ev tm) es))) .u
    | _=>False
   | _,_=>False
  | q+2=>match x.ev tm,FP (y.ev tm) with
   | .m b,some l=>match objs[b]? with
    | some (.mpk true es)=>K objs (Ft z (q==1) (Da l es))
    | _=>False
   | _,_=>False
def nX (P:Program) (name:String):List (Nat×Nat):=(List.range P.types.size).filterMap fun T=>(Ij P T name).map fun f=>(T,f)
theorem Nv {P:Program} {name:String}:∀{l:List Nat} {T f:Nat},(l.filterMap fun T=>(Ij P T name).map fun f=>(T,f)).lookup T=some f->Ij P T name=some f
 | [],T,f,h=>by simp at h
 | a::l,T,f,h=>by
  rw[List.filterMap_cons] at h
  cases hm:Ij P a name with
  | none=>rw[hm] at h;exact Nv (l:=l) h
  | some g=>
   rw[hm] at h;simp only[jt,List.lookup_cons] at h
   split at h
   ·rename_i e;have:T=a:=by simpa using e
    subst this;rw[hm];exact h
   ·exact Nv (l:=l) h
def Fi (P:Program):Op->Option SOp
 | .move x | .assign x=>some (.mv (Ad x))
 | .pick c x y=>some (.pick (Ad c) (Ad x) (Ad y))
 | .alloc T=>match P.info? T with
  | some i=>match i.zero with
   | some z=>if z.cells.toList.all (·.oneCell')=true then some (.alloc T (z.cells.toList.map DD)) else none
   | none=>none
  | none=>none
 | .box T x=>some (.box T (Ad x))
 | .build t parts=>match P.info? t,Ni P t with
  | some it,some place=>match it.zero,parts.toList.mapM (fun p=>(place p.1).map fun q=>(q.1,q.2,Ad p.2)) with
   | some z,some ps=>if z.cells.toList.all (·.oneCell')=true then some (.build (z.cells.toList.map DD) ps) else none
   | _,_=>none
  | _,_=>none
 | .buildSlice t len parts=>match P.underlying t with
  | some (.slice e)=>match P.info? e with
   | some ie=>match ie.zero,parts.toList.mapM (fun p=>((fun i=>some (i*ie.size,ie.size)) p.1:Option (Nat×Nat)).map fun q=>(q.1,q.2,Ad p.2)) with
    | some z,some ps=>if (¬len*ie.size > 2 ^ 24/\¬len*ie.size=0)/\((Array.range (len*ie.size)).map (z.cells[· % z.cells.size]!)).toList.all (·.oneCell')=true then some (.bslice len (((Array.range (len*ie.size)).map (z.cells[· % z.cells.size]!)).toList.map DD) ps) else if len=0/\parts.toList=[] then some (.mks e ie.size 1 (.c (.i .i64 0)) (.c (.i .i64 0))) else none
    | _,_=>none
   | none=>none
  | _=>none
 | .load t x=>match P.underlying t,P.info? t with
  | some d,some i=>if d.isRow=true then some (.loadn i.size (Ad x)) else some (.load1 (Ad x))
  | _,_=>none
 | .store t x y=>match P.info? t with
  | some i=>some (.store i.size (Ad x) (Ad y))
  | none=>none
 | .nilCheck x=>some (.nck (Ad x))
 | .binOp op T x y _=>match P.underlying T with
  | some .bool=>match op with
   | .eql=>some (.beq false (Ad x) (Ad y))
   | .neq=>some (.beq true (Ad x) (Ad y))
   | _=>none
  | some (.struct _)=>match Gm P 10000 T with
   | some et=>if P.eqGuardType P.depth T=false then (match op with
    | .eql=>some (.eqs false et (Ad x) (Ad y))
    | .neq=>some (.eqs true et (Ad x) (Ad y))
    | _=>none) else none
   | none=>none
  | _=>some (.bin op (Ad x) (Ad y))
 | .unOp .not _ x=>some (.not (Ad x))
 | .unOp .neg _ x=>some (.neg (Ad x))
 | .convert src dst x=>match P.underlying src,P.underlying dst with
  | some .string,some .string=>some (.cvs (Ad x))
  | some (.slice e),some .string=>match P.underlying e with
   | some (.int .u8)=>some (.cvbs (Ad x))
   | _=>none
  | some _,some (.int k)=>some (.cvi k (Ad x))
  | _,_=>none
 | .slice t x lo hi none=>match P.underlying t with
  | some .string=>some (.slcs (Ad x) (lo.map Ad) (hi.map Ad))
  | some (.slice e)=>match lo,hi,P.info? e with
   | none,some hi,some i=>some (.trn i.size (Ad x) (Ad hi))
   | _,_,_=>none
  | _=>none
 | .fieldAddr t x k=>match P.underlying t with
  | some (.struct fs)=>match fs[k]? with
   | some f=>match P.info? f.type with
    | some i=>if i.size=0 then none else some (.fad f.offset (Ad x))
    | none=>none
   | none=>none
  | _=>none
 | .field t x k=>match P.underlying t with
  | some (.struct fs)=>match fs[k]? with
   | some f=>match P.underlying f.type,P.info? f.type with
    | some d,some i=>if d.isRow=true then some (.fldn f.offset i.size (Ad x)) else some (.fld1 f.offset (Ad x))
    | _,_=>none
   | none=>none
  | _=>none
 | .indexAddr t x y=>match P.underlying t with
  | some (.slice e)=>match P.info? e with
   | some i=>if i.size=0 then none else some (.iad i.size (Ad x) (Ad y))
   | none=>none
  | some (.array len e)=>match P.info? e with
   | some i=>if i.size=0 then none else some (.iada i.size len (Ad x) (Ad y))
   | none=>none
  | _=>none
 | .index t x y=>match P.underlying t with
  | some .string=>some (.idx (Ad x) (Ad y))
  | _=>none
 | .extract x k=>some (.ext (Ad x) k)
 | .makeFunc (.func f) fs cs=>some (.mkf f (fs.toList.map Ad) (cs.toList.map Ad))
 | .makeMap t none=>match P.underlying t with
  | some (.map kt _)=>if E9 P kt=true then some (.mph 0 .u (.c .u) (.c .u) (.c .u)) else some .mkm0
  | _=>none
 | .makeMap t (some x)=>match P.underlying t with
  | some (.map _ _)=>some (.mkm1 (Ad x))
  | _=>none
 | .lookup t x y ok=>match P.underlying t with
  | some (.map kt e)=>match P.underlying kt with
   | some .string=>match P.info? e with
    | some i=>match i.zero with
     | some z=>some (.lk (DD z) ok (Ad x) (Ad y))
     | none=>none
    | none=>none
   | _=>if E9 P kt=true then match P.info? e with
    | some i=>match i.zero with
     | some z=>some (.mph (if ok=true then 3 else 2) (DD z) (Ad x) (Ad y) (.c .u))
     | none=>none
    | none=>none
    else none
  | _=>none
 | .mapUpdate t x y v=>match P.underlying t with
  | some (.map kt _)=>match P.underlying kt with
   | some .string=>some (.mup (Ad x) (Ad y) (Ad v))
   | _=>if E9 P kt=true then some (.mph 1 .u (Ad x) (Ad y) (Ad v)) else none
  | _=>none
 | .insert t x y v=>match P.underlying t with
  | some (.map kt _)=>match P.underlying kt with
   | some .string=>some (.mup (Ad x) (Ad y) (Ad v))
   | _=>if E9 P kt=true then some (.mph 1 .u (Ad x) (Ad y) (Ad v)) else none
  | _=>none
 | .makeSlice t x y=>match P.underlying t with
  | some (.slice e)=>match P.info? e with
   | some i=>match i.zero with
    | some (.int kd z)=>match Ad x,Ad y with
     | .t p,.t q=>if p=q/\i.size=1 then some (.mkz e i.bytes kd z (.t p)) else some (.mks e i.size i.bytes (Ad x) (Ad y))
     | _,_=>some (.mks e i.size i.bytes (Ad x) (Ad y))
    | some _=>some (.mks e i.size i.bytes (Ad x) (Ad y))
    | none=>none
   | none=>none
  | _=>none
 | .call c=>match c.callee with
  | .value (.func f)=>match P.funcs[f]? with
   | some fn => if fn.body.isSome = true ∧ fn.name ≠ "runtime.NumGoroutine" then some (.call f (c.args.toList.map Ad)) else none
   | none=>none
  | .value (.tmp t)=>some (.callv (.t t) (c.args.toList.map Ad))
  | .invoke x name=>match nX P name with
   | []=>none
   | tab=>some (.inv tab (Ad x) (c.args.toList.map Ad))
  | .builtin .len=>match c.args.toList,c.argTypes.toList with
   | [x],[T]=>match P.underlying T with
    | some .string=>some (.lens (Ad x))
    | some (.slice _)=>some (.lenr (Ad x))
    | _=>none
   | _,_=>none
  | .builtin .append=>match c.args.toList,c.argTypes.toList with
   | [x,y],[T,U]=>match P.underlying T with
    | some (.slice e)=>match P.info? e with
     | some i=>match i.zero with
      | some z=>if T=U then (if z.cells.size=i.size/\0<i.size then some (.app e i.size i.bytes (Ad x) (Ad y)) else none)
       else match P.underlying U,z with
        | some .string,.int .u8 0=>if i.size=1/\i.bytes=1 then some (.apps e (Ad x) (Ad y)) else none
        | _,_=>none
      | none=>none
     | none=>none
    | _=>none
   | _,_=>none
  | _=>none
 | _=>none
def Ig (P:Program) (o:Op):Option SOp :=
 match OM P o with
 | some (q,xs)=>some (.pu q xs)
 | none=>Fi P o
theorem dJ {P:Program} [Tabs P] {objs:List OB} {tm:List AV} {K:List OB->AV->Prop} {ok:Bool} {z:AV} {x y v:SV} (h:Ah P (.mph (if ok=true then 3 else 2) z x y v) objs tm K):∃b es l,x.ev tm=.m b/\objs[b]? = some (.mpk true es)/\FP (y.ev tm)=some l/\K objs (Ft z ok (Da l es)):=by
 cases ok
 all_goals
  simp only[if_true,Bool.false_eq_true,if_false,Ah] at h
  split at h
  ·rename_i b l hx hy
   split at h
   ·rename_i es hb;exact⟨b,es,l,hx,hb,hy,h⟩
   ·exact h.elim
  ·exact h.elim
theorem Ja {k:IntKind} {r:Int} {K:Int->Prop} (h:EA k r K):K (k.wrap r):=by
 cases k<;>simp only[EA] at h<;>first|exact h|(rw[IntWalk.i64_in r h.1];exact h.2)
theorem YR (tm:List AV) (d:Int) (o:Option Operand):Gv tm d (o.map Ad)=IW tm d o:=by cases o<;>rfl
section
variable {P:Program} {C:Cx} {type:TypeId} {objs:List OB} {tm:List AV} {K:List OB->AV->Prop}
theorem oL (op:BinOp) (T T':TypeId) (x y:Operand) (h:Fx op ((Ad x).ev tm) ((Ad y).ev tm) fun v=>K objs v):AA P C (.binOp op T x y T') type objs tm K:=by
 unfold Fx at h
 split at h
 ·rename_i k m k' n hx hy;obtain⟨rfl,h⟩:=h
  split at h
  ·exact Mv .add T T' x y k m n _ hx hy rfl (Ja h)
  ·exact Mv .sub T T' x y k m n _ hx hy rfl (Ja h)
  ·exact Mv .mul T T' x y k m n _ hx hy rfl (Ja h)
  ·exact qJ T T' x y k m n hx hy h.1 (Ja h.2)
  ·exact qK T T' x y k m n hx hy h.1 h.2
  ·exact Ik .eql T T' x y k m n _ hx hy rfl h
  ·exact Ik .neq T T' x y k m n _ hx hy rfl h
  ·exact Ik .lss T T' x y k m n _ hx hy rfl h
  ·exact Ik .leq T T' x y k m n _ hx hy rfl h
  ·exact Ik .gtr T T' x y k m n _ hx hy rfl h
  ·exact Ik .geq T T' x y k m n _ hx hy rfl h
  ·exact h.elim
 ·rename_i l m hx hy
  split at h
  ·exact rI T T' x y l m hx hy h.1 h.2
  ·exact Pz .eql T T' x y l m _ hx hy (.inl ⟨rfl,rfl⟩) h
  ·exact Pz .neq T T' x y l m _ hx hy (.inr ⟨rfl,rfl⟩) h
  ·exact h.elim
 ·exact h.elim
end
section
variable {P:Program} [Tabs P] {C:Cx} [On P C] {type:TypeId} {objs:List OB} {tm:List AV} {K:List OB->AV->Prop}
omit [On P C] in
theorem QB {T:TypeId} {x y:Operand} {e:TypeId} {i:TypeInfo} {z:Value} {so:SOp} (hu:P.underlying T=some (.slice e)) (hi:P.info? e=some i) (hz:i.zero=some z) (ht:some (SOp.mks e i.size i.bytes (Ad x) (Ad y))=some so) (h:Ah P so objs tm K):AA P C (.makeSlice T x y) type objs tm K:=by
 injection ht with ht;subst ht
 simp only[Ah] at h
 split at h
 ·rename_i kl l kc c hx hy;obtain⟨⟨rfl,h0,h1,h2⟩,h⟩:=h;exact Px _ _ _ e i z hu hi hz kl kc c hx hy h0 h1 h2 h
 ·exact h.elim
theorem Xh (o:Op) (so:SOp) (ht:Fi P o=some so) (h:Ah P so objs tm K):AA P C o type objs tm K:=by
 unfold Fi at ht
 split at ht
 ·injection ht with ht;subst ht;exact Wu _ h
 ·injection ht with ht;subst ht;exact aN _ h
 ·injection ht with ht;subst ht
  simp only[Ah] at h
  split at h
  ·rename_i t hc;exact Wv _ _ _ t hc h.1 h.2
  ·exact h.elim
 ·-- alloc
  split at ht
  ·rename_i i hi
   split at ht
   ·rename_i z hz
    split at ht
    ·rename_i h1;injection ht with ht;subst ht
     exact Yf _ i z hi hz h1 h
    ·cases ht
   ·cases ht
  ·cases ht
 ·injection ht with ht;subst ht
  exact rH _ _ h.1 h.2
 ·-- build
  split at ht
  ·rename_i it place hi hpl
   split at ht
   ·rename_i z ps hz hps
    split at ht
    ·rename_i h1;injection ht with ht;subst ht
     simp only[Ah] at h
     split at h
     ·rename_i cs hf;exact Yh _ _ it z hi hz h1 place hpl ps hps cs hf h
     ·exact h.elim
    ·cases ht
   ·cases ht
  ·cases ht
 ·-- buildSlice
  split at ht
  ·rename_i e hu
   split at ht
   ·rename_i ie hie
    split at ht
    ·rename_i z ps hz hps
     split at ht
     ·rename_i h1;injection ht with ht;subst ht
      simp only[Ah] at h
      split at h
      ·rename_i cs hf;exact aO _ e _ _ ie z hu hie hz h1.1.1 h1.1.2 _ rfl h1.2 ps hps cs hf h
      ·exact h.elim
     ·split at ht
      ·rename_i h0;injection ht with ht;subst ht
       simp only[Ah,SV.ev] at h;exact W6 _ e _ _ ie hu hie h0.1 h0.2 h.2
      ·cases ht
    ·cases ht
   ·cases ht
  ·cases ht
 ·-- load
  split at ht
  ·rename_i d i hu hi
   split at ht
   ·rename_i hr;injection ht with ht;subst ht
    simp only[Ah] at h
    split at h
    ·rename_i b off hx
     split at h
     ·rename_i B cs hb;exact Yk _ _ d hu hr i.size (by rw[hi];rfl) b off B cs hx hb h.1 h.2
     ·exact h.elim
    ·rename_i xs j hx;exact aS _ _ d hu hr i.size (by rw[hi];rfl) xs j hx h.1 h.2
    ·rename_i b gen j hx
     split at h
     ·rename_i E s gen' n xs hb;obtain⟨⟨rfl,h1⟩,h⟩:=h;exact aR _ _ d hu hr i.size (by rw[hi];rfl) b _ j E s n xs hx hb h1 h
     ·exact h.elim
    ·exact h.elim
   ·rename_i hr;have hr:d.isRow=false:=by simpa using hr
    injection ht with ht;subst ht
    simp only[Ah] at h
    split at h
    ·rename_i b off hx
     split at h
     ·rename_i B cs hb
      split at h
      ·rename_i v hv;exact Yj _ _ d hu hr b off B cs v hx hb hv h
      ·exact h.elim
     ·exact h.elim
    ·rename_i xs j hx;obtain⟨v,hv,h⟩:=h;exact aQ _ _ d hu hr xs j v hx hv h
    ·rename_i b gen j hx
     split at h
     ·rename_i E s gen' n xs hb;obtain⟨rfl,v,hv,h⟩:=h;exact aP _ _ d hu hr b _ j E s n xs v hx hb hv h
     ·exact h.elim
    ·exact h.elim
  ·cases ht
 ·-- store
  split at ht
  ·rename_i i hi;injection ht with ht;subst ht
   simp only[Ah] at h
   split at h
   ·rename_i b off hx
    split at h
    ·rename_i T cs hb;exact Yl _ _ _ i.size (by rw[hi];rfl) b off T cs hx hb h.1.1 h.1.2.1 h.1.2.2 h.2
    ·exact h.elim
   ·rename_i b gen j hx
    split at h
    ·rename_i E s gen' n xs hb;obtain⟨⟨rfl,h1,h2,h3⟩,h⟩:=h;exact aT _ _ _ i.size (by rw[hi];rfl) b _ j E s n xs hx hb h1 h2 h3 h
    ·exact h.elim
   ·exact h.elim
  ·cases ht
 ·-- nilCheck
  injection ht with ht;subst ht
  simp only[Ah] at h
  split at h
  ·rename_i b o hx;exact Kx _ (by rw[hx];exact h) (.inl ⟨b,o,hx⟩)
  ·rename_i xs j hx;exact Kx _ (by rw[hx];exact h) (.inr (.inl ⟨xs,j,hx⟩))
  ·rename_i f fs cs hx;exact Kx _ (by rw[hx];exact h) (.inr (.inr (.inl ⟨f,fs,cs,hx⟩)))
  ·rename_i b gen j hx;exact Kx _ (by rw[hx];exact h) (.inr (.inr (.inr ⟨b,gen,j,hx⟩)))
  ·exact h.elim
 ·-- binOp
  rename_i op T x y T'
  split at ht
  ·rename_i hu
   split at ht
   ·injection ht with ht;subst ht
    simp only[Ah,Bool.false_eq_true,if_false] at h
    split at h
    ·rename_i l m hx hy;exact Pu .eql T T' x y l m _ hu hx hy (.inl ⟨rfl,rfl⟩) h
    ·exact h.elim
   ·injection ht with ht;subst ht
    simp only[Ah,if_true] at h
    split at h
    ·rename_i l m hx hy;exact Pu .neq T T' x y l m _ hu hx hy (.inr ⟨rfl,rfl⟩) h
    ·exact h.elim
   ·cases ht
  ·rename_i fs hu
   split at ht
   ·rename_i et het
    split at ht
    ·rename_i hg
     split at ht
     ·injection ht with ht;subst ht
      simp only[Ah,Bool.false_eq_true,if_false] at h
      split at h
      ·rename_i xs ys hx hy
       split at h
       ·rename_i r hr;exact Pv .eql T T' x y et xs ys r _ het hg hx hy hr (.inl ⟨rfl,rfl⟩) h
       ·exact h.elim
      ·exact h.elim
     ·injection ht with ht;subst ht
      simp only[Ah,if_true] at h
      split at h
      ·rename_i xs ys hx hy
       split at h
       ·rename_i r hr;exact Pv .neq T T' x y et xs ys r _ het hg hx hy hr (.inr ⟨rfl,rfl⟩) h
       ·exact h.elim
      ·exact h.elim
     ·cases ht
    ·cases ht
   ·cases ht
  ·injection ht with ht;subst ht
   exact oL op T T' x y h
 ·injection ht with ht;subst ht
  simp only[Ah] at h
  split at h
  ·rename_i t hx;exact qI _ _ t hx h
  ·exact h.elim
 ·injection ht with ht;subst ht
  simp only[Ah] at h
  split at h
  ·rename_i k n hx;exact qH _ _ k n hx (Ja h)
  ·exact h.elim
 ·-- convert
  split at ht
  ·rename_i hs hu;injection ht with ht;subst ht
   simp only[Ah] at h
   split at h
   ·rename_i l hx;exact rK _ _ _ l hs hu hx h
   ·exact h.elim
  ·rename_i e hs hu
   split at ht
   ·rename_i he;injection ht with ht;subst ht
    simp only[Ah] at h
    split at h
    ·rename_i b gen hx
     split at h
     ·rename_i E sz gen' n xs hb;obtain⟨⟨rfl,rfl⟩,l,rfl,h⟩:=h;exact KN _ _ _ e l hs he hu (.inl ⟨b,gen',E,n,hx,hb⟩) h
     ·exact h.elim
    ·rename_i n xs hx;obtain⟨l,⟨rfl,hn⟩,h⟩:=h;exact KN _ _ _ e l hs he hu (.inr (.inl ⟨n,hx,hn⟩)) h
    ·rename_i hx;exact KN _ _ _ e [] hs he hu (.inr (.inr (.inl ⟨hx,rfl⟩))) h
    ·rename_i b off n hx
     split at h
     ·rename_i T cs hb;obtain⟨l,⟨h1,h2⟩,h⟩:=h;exact KN _ _ _ e l hs he hu (.inr (.inr (.inr ⟨b,off,n,T,cs,hx,hb,h1,h2⟩))) h
     ·exact h.elim
    ·exact h.elim
   ·cases ht
  ·rename_i d k hs hu;injection ht with ht;subst ht
   simp only[Ah] at h
   split at h
   ·rename_i j n hx;exact rJ _ _ _ k j n (by rw[hs];rfl) hu hx h
   ·exact h.elim
  ·cases ht
 ·-- slice
  split at ht
  ·rename_i hu;injection ht with ht;subst ht
   simp only[Ah,YR] at h
   split at h
   ·rename_i l hx
    split at h
    ·rename_i i j hlo hhi;exact WA _ _ _ _ l i j hu hx hlo hhi h.1.1 h.1.2.1 h.1.2.2 h.2
    ·exact h.elim
   ·exact h.elim
  ·rename_i e hu
   split at ht
   ·rename_i hi' i hi;injection ht with ht;subst ht
    simp only[Ah] at h
    split at h
    ·rename_i n xs k j hx hj;exact Wx _ _ _ e i hu hi n xs k j hx hj h.1.1 h.1.2 h.2
    ·rename_i k j hx hj;obtain⟨rfl,h⟩:=h;exact Wy _ _ _ e i hu hi k hx hj h
    ·rename_i b gen k j hx hj
     split at h
     ·rename_i E s gen' n xs hb;obtain⟨⟨rfl,rfl,h1,h2⟩,h⟩:=h;exact WB _ _ _ e i hu hi b _ n E xs k j hx hb hj h1 h2 h
     ·exact h.elim
    ·exact h.elim
   ·cases ht
  ·cases ht
 ·-- fieldAddr
  split at ht
  ·rename_i fs hu
   split at ht
   ·rename_i f hf
    split at ht
    ·rename_i i hi
     split at ht
     ·cases ht
     ·rename_i h0;injection ht with ht;subst ht
      simp only[Ah] at h
      split at h
      ·rename_i b o hx;exact Mw _ _ _ fs f i.size _ hu hf (by rw[hi];rfl) h0 (.inl ⟨b,o,hx,rfl⟩) h
      ·rename_i xs j hx;exact Mw _ _ _ fs f i.size _ hu hf (by rw[hi];rfl) h0 (.inr (.inl ⟨xs,j,hx,rfl⟩)) h
      ·rename_i b gen j hx;exact Mw _ _ _ fs f i.size _ hu hf (by rw[hi];rfl) h0 (.inr (.inr ⟨b,gen,j,hx,rfl⟩)) h
      ·exact h.elim
    ·cases ht
   ·cases ht
  ·cases ht
 ·-- field
  split at ht
  ·rename_i fs hu
   split at ht
   ·rename_i f hf
    split at ht
    ·rename_i d i hd hi
     split at ht
     ·rename_i hr;injection ht with ht;subst ht
      simp only[Ah] at h
      split at h
      ·rename_i cs hx;exact Wo _ _ _ fs f d i.size cs hu hf hd hr (by rw[hi];rfl) hx h
      ·exact h.elim
     ·rename_i hr;injection ht with ht;subst ht
      simp only[Ah] at h
      split at h
      ·rename_i cs hx
       split at h
       ·rename_i v hv;exact Wn _ _ _ fs f d cs v hu hf hd (by simpa using hr) hx hv h
       ·exact h.elim
      ·exact h.elim
    ·cases ht
   ·cases ht
  ·cases ht
 ·-- indexAddr
  split at ht
  ·rename_i e hu
   split at ht
   ·rename_i i hi
    split at ht
    ·cases ht
    ·rename_i h0;injection ht with ht;subst ht
     simp only[Ah] at h
     split at h
     ·rename_i n xs k j hx hy;exact rL _ _ _ e i.size n xs k j hu (by rw[hi];rfl) hx hy h.1.1 h.1.2.1 h.1.2.2 (by omega) h.2
     ·rename_i b gen k j hx hy
      split at h
      ·rename_i E s gen' n xs hb;obtain⟨⟨rfl,rfl,h1,h2⟩,h⟩:=h;exact Wq _ _ _ e i.size n b _ E xs k j hu (by rw[hi];rfl) hx hb hy h1 h2 h
      ·exact h.elim
     ·exact h.elim
   ·cases ht
  ·rename_i len e hu
   split at ht
   ·rename_i i hi
    split at ht
    ·cases ht
    ·rename_i h0;injection ht with ht;subst ht
     simp only[Ah] at h
     split at h
     ·rename_i b off k j hx hy;exact Wp _ _ _ e i.size len b off k j hu (by rw[hi];rfl) hx hy h.1.1 h.1.2 (by omega) h.2
     ·exact h.elim
   ·cases ht
  ·cases ht
 ·-- index
  split at ht
  ·rename_i hu;injection ht with ht;subst ht
   simp only[Ah] at h
   split at h
   ·rename_i l k n hx hy;exact rM _ _ _ l k n hu hx hy h.1.1 h.1.2 h.2
   ·exact h.elim
  ·cases ht
 ·injection ht with ht;subst ht
  simp only[Ah] at h
  split at h
  ·rename_i vs hx
   split at h
   ·rename_i v hv;exact bX _ _ vs v hx hv h
   ·exact h.elim
  ·exact h.elim
 ·injection ht with ht;subst ht
  refine eR _ _ _ ?_;simpa[Ah,Function.comp_def] using h
 ·-- makeMap
  split at ht
  ·split at ht
   ·injection ht with ht;subst ht
    simp only[Ah] at h;exact qF _ h
   ·injection ht with ht;subst ht
    simp only[Ah] at h;exact Ws _ h
  ·cases ht
 ·-- makeMap,with a hint
  split at ht
  ·rename_i kt e hu;injection ht with ht;subst ht
   simp only[Ah] at h
   split at h
   ·rename_i k n hx;exact Wt _ _ kt e hu k n hx h
   ·exact h.elim
  ·cases ht
 ·-- lookup
  split at ht
  ·rename_i kt e hu
   split at ht
   ·rename_i hk
    split at ht
    ·rename_i i hi
     split at ht
     ·rename_i z hz;injection ht with ht;subst ht
      simp only[Ah] at h
      split at h
      ·rename_i b l hx hy
       split at h
       ·rename_i es hb;exact mX _ _ _ _ kt e i z hu hk hi hz b es l hx hb hy h
       ·exact h.elim
      ·exact h.elim
     ·cases ht
    ·cases ht
   ·split at ht
    ·rename_i hk
     split at ht
     ·rename_i i hi
      split at ht
      ·rename_i z hz;injection ht with ht;subst ht
       obtain⟨b,es,l,hx,hb,hy,h⟩:=dJ h;exact qE _ _ _ _ kt e i z hu hk hi hz b es l hx hb hy h
      ·cases ht
     ·cases ht
    ·cases ht
  ·cases ht
 ·-- mapUpdate
  split at ht
  ·rename_i kt e hu
   split at ht
   ·rename_i hk;injection ht with ht;subst ht
    simp only[Ah] at h
    split at h
    ·rename_i b l hx hy
     split at h
     ·rename_i es hb;exact Py _ _ _ _ _ (.inl rfl) kt e hu hk b es l hx hb hy h.1 h.2
     ·exact h.elim
    ·exact h.elim
   ·split at ht
    ·rename_i hk;injection ht with ht;subst ht
     simp only[Ah] at h
     split at h
     ·rename_i b l hx hy
      split at h
      ·rename_i es hb;exact QD _ _ _ _ _ (.inl rfl) kt e hu hk b es l hx hb hy h.1 h.2
      ·exact h.elim
     ·exact h.elim
    ·cases ht
  ·cases ht
 ·-- insert
  split at ht
  ·rename_i kt e hu
   split at ht
   ·rename_i hk;injection ht with ht;subst ht
    simp only[Ah] at h
    split at h
    ·rename_i b l hx hy
     split at h
     ·rename_i es hb;exact Py _ _ _ _ _ (.inr rfl) kt e hu hk b es l hx hb hy h.1 h.2
     ·exact h.elim
    ·exact h.elim
   ·split at ht
    ·rename_i hk;injection ht with ht;subst ht
     simp only[Ah] at h
     split at h
     ·rename_i b l hx hy
      split at h
      ·rename_i es hb;exact QD _ _ _ _ _ (.inr rfl) kt e hu hk b es l hx hb hy h.1 h.2
      ·exact h.elim
     ·exact h.elim
    ·cases ht
  ·cases ht
 ·-- makeSlice
  split at ht
  ·rename_i e hu
   split at ht
   ·rename_i i hi
    split at ht
    ·rename_i kd z hz
     split at ht
     ·rename_i p q hp hq
      split at ht
      ·rename_i hc;injection ht with ht;subst ht
       simp only[Ah] at h
       split at h
       ·rename_i kl c hx;obtain⟨⟨h0,h1,h2⟩,h⟩:=h;exact qG _ _ _ e i kd z hu hi hz hc.2 kl c (by rw[hp];exact hx) (by rw[hq,<-hc.1];exact hx) h0 h1 h2 h
       ·exact h.elim
      ·exact QB hu hi hz ht h
     ·exact QB hu hi hz ht h
    ·rename_i z hz;injection ht with ht;subst ht
     simp only[Ah] at h
     split at h
     ·rename_i kl l kc c hx hy;obtain⟨⟨rfl,h0,h1,h2⟩,h⟩:=h;exact Px _ _ _ e i _ hu hi (by assumption) kl kc c hx hy h0 h1 h2 h
     ·exact h.elim
    ·cases ht
   ·cases ht
  ·cases ht
 ·-- call
  rename_i c;obtain⟨callee,args,ats⟩:=c
  split at ht
  ·rename_i f hc;simp only at hc;subst hc
   split at ht
   ·rename_i fn hf
    split at ht
    ·rename_i hb;injection ht with ht;subst ht
     refine RK f args ats _ [] [] rfl fn hf hb.1 hb.2 ?_;simpa[Ah,Function.comp_def] using h
    ·cases ht
   ·cases ht
  ·rename_i t hc;simp only at hc;subst hc;injection ht with ht;subst ht
   simp only[Ah] at h
   split at h
   ·rename_i f fs cs hx;obtain⟨⟨fn,hf,hb,hn⟩,h⟩:=h;refine RK f args ats _ fs cs hx fn hf hb hn ?_;simpa[Function.comp_def] using h
   ·exact h.elim
  ·rename_i x name hc;simp only at hc;subst hc
   split at ht
   ·cases ht
   ·rename_i tab htab hne;injection ht with ht;subst ht
    simp only[Ah] at h
    split at h
    ·rename_i T b off hx
     split at h
     ·rename_i f hf;refine qD name args ats x T f b off hx (Nv hf) ?_;simpa[Function.comp_def] using h
     ·exact h.elim
    ·exact h.elim
  ·rename_i hc;simp only at hc;subst hc
   split at ht
   ·rename_i x T hargs hats;have ea:args=#[x]:=by apply Array.ext';simpa using hargs
    have et:ats=#[T]:=by apply Array.ext';simpa using hats
    subst ea et
    split at ht
    ·rename_i hu;injection ht with ht;subst ht
     simp only[Ah] at h
     split at h
     ·rename_i l hx;exact Wr T _ x l hu hx h
     ·exact h.elim
    ·rename_i e hu;injection ht with ht;subst ht
     simp only[Ah] at h
     split at h
     ·rename_i n xs hx;exact KO T _ x e n hu (.inl ⟨xs,hx⟩) h
     ·rename_i hx;exact KO T _ x e 0 hu (.inr (.inl ⟨hx,rfl⟩)) h
     ·rename_i z hx;exact KO T _ x e 0 hu (.inr (.inr (.inl ⟨z,hx,rfl⟩))) h
     ·rename_i b gen hx
      split at h
      ·rename_i E sz gen' n xs hb;obtain⟨rfl,h⟩:=h;exact KO T _ x e n hu (.inr (.inr (.inr ⟨b,gen',E,sz,xs,hx,hb⟩))) h
      ·exact h.elim
     ·exact h.elim
    ·cases ht
   ·cases ht
  ·rename_i hc;simp only at hc;subst hc
   split at ht
   ·rename_i x y T U hargs hats;have ea:args=#[x,y]:=by apply Array.ext';simpa using hargs
    have et:ats=#[T,U]:=by apply Array.ext';simpa using hats
    subst ea et
    split at ht
    ·rename_i e hu
     split at ht
     ·rename_i i hi
      split at ht
      ·rename_i z hz
       split at ht
       ·rename_i hTU;subst hTU
        split at ht
        ·rename_i hzs;injection ht with ht;subst ht
         simp only[Ah] at h
         split at h
         ·rename_i m ys hy
          split at h
          ·rename_i b gen hx
           split at h
           ·rename_i E' sz' gen' n xs hb;obtain⟨⟨⟨rfl,rfl,rfl⟩,h1,h2,h3⟩,h⟩:=h;exact rE T _ x y _ i z hu hi hz hzs.1 hzs.2 b gen' n m xs ys hx hb hy h1 h2 h3 h
           ·exact h.elim
          ·rename_i hx;exact WY T _ x y _ i z hu hi hz hzs.1 hzs.2 m ys hx hy h.1.1 h.1.2.1 h.1.2.2 h.2
          ·exact h.elim
         ·exact h.elim
        ·cases ht
       ·split at ht
        ·rename_i hus
         split at ht
         ·rename_i h11;injection ht with ht;subst ht
          simp only[Ah] at h
          split at h
          ·rename_i l hy
           split at h
           ·rename_i b gen hx
            split at h
            ·rename_i E' sz' gen' n xs hb;obtain⟨⟨⟨rfl,rfl,rfl⟩,h1⟩,h⟩:=h;exact WZ T U _ x y _ i hu hus hi hz h11.1 h11.2 b gen' n xs l hx hb hy h1 h
            ·exact h.elim
           ·rename_i hx;exact Yg T U _ x y _ i hu hus hi hz h11.1 h11.2 l hx hy h.1 h.2
           ·exact h.elim
          ·exact h.elim
         ·cases ht
        ·cases ht
      ·cases ht
     ·cases ht
    ·cases ht
   ·cases ht
  ·cases ht
 ·cases ht
theorem Hh (o:Op) (so:SOp) (ht:Ig P o=some so) (h:Ah P so objs tm K):AA P C o type objs tm K:=by
 unfold Ig at ht
 split at ht
 ·rename_i q xs hq;injection ht with ht;subst ht
  simp only[Ah] at h
  split at h
  ·rename_i v hv;exact nD o q xs v hq hv h
  ·exact h.elim
 ·exact Xh o so ht h
end
end Go.Proofs.YtbeoijfmfkifeaaGreatDoor.Sx
