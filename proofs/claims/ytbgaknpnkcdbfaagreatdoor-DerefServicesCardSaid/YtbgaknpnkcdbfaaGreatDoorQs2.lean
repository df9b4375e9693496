/- The texts that the proofs of these statements reach, in their order, as few files. -/
import Derived.Lib.ConvBytes
import Derived.Lib.AppendStr
import Derived.Laws.IdiomStrings
import Derived.Laws.BytesString
import Derived.Deep.OwnRows
import Derived.Great.BuildSlice
import Derived.Laws.Slices
import Derived.MapKept
import Derived.DeepKeys3
import Derived.Test.YtbgaknpnkcdbfaaGreatDoorQs1
set_option linter.unusedVariables false
set_option linter.unusedSimpArgs false
set_option maxRecDepth 100000
namespace Go.Proofs.YtbgaknpnkcdbfaaGreatDoor.Sx
open Go.RowKit
open List renaming all_eq_true->zw, append_assoc->zu, cons->jc, cons_append->ja, contains_iff_mem->jl, eq_nil_of_length_eq_zero->qz, getD_eq_getElem?_getD->jz, getElem?_append_left->qh, getElem?_append_right->xv, getElem?_drop->jx, getElem?_eq_getElem->zk, getElem?_eq_none->qq, getElem?_eq_some_iff->zf, getElem?_map->je, getElem?_set_ne->zo, getElem?_set_self->zm, getElem?_take->xw, getElem?_take_of_lt->ye, length_append->zg, length_cons->zp, length_map->qk, length_set->zh, length_take->zq, map_cons->zl, map_nil->qa, mem_append->qc, mem_append_left->xi, mem_append_right->xo, mem_cons->zv, mem_cons_of_mem->qp, mem_filter->xq, mem_map->jr, mem_map_of_mem->ya, mem_of_mem_drop->xr, mem_of_mem_take->xe, mem_range->qy, nil_append->qo, range->zi
open Nat renaming add_zero->jj, eq_zero_or_pos->jw, le_refl->ze, le_trans->qg, lt_or_ge->zx, zero_add->qj, zero_le->zd
open Option renaming getD_some->qx, map_eq_some_iff->xt, map_some->jt, some->zy
theorem In.evolve {C:Cx} {G:Gh} {I:Al} {w w':World} {row:Option Nat} (h:In C G I w) (hg:w.grownBy w' row) (hr:∀k,row=some k->C.own k\/C.w.heap.size<=k):In C G I w':=by
 refine⟨hg.os.trans h.os,hg.tape.trans h.tape,hg.output.trans h.output,qg h.size hg.size,fun k hk hn=>?_,h.imm,h.news,h.blk,h.gh⟩;rw[hg.block k (Nat.lt_of_lt_of_le hk h.size) (fun e=>by rcases hr k e.symm with h1|h1;exact hn h1;omega)];exact h.block k hk hn
theorem Uo {w w':World} {g o:Nat} (h:w'.heap[g]? = w.heap[g]?):w'.cell? ⟨g,o,none⟩=w.cell? ⟨g,o,none⟩:=by simp only[World.cell?,h]
theorem MemOk.evolve {G:Gh} {I:Al} {objs:List OB} {w w':World} (h:MemOk G I objs w) (hg:w.grownBy w' none):MemOk G I objs w':=by
 refine⟨fun g o v hi=>?_,fun b T cs hb=>?_,fun b E sz gen n xs hb=>?_,fun b hh es hb=>?_,h.inj,fun b g hb=>Nat.lt_of_lt_of_le (h.lt b g hb) hg.size,h.apart,h.fresh⟩
 ·rw[<-h.imm g o v hi];exact Uo (hg.block g (World.block_lt_of_cell? (h:=h.imm g o v hi)) (by simp))
 ·obtain⟨g,ys,k1,k2,k3⟩:=h.box b T cs hb;exact⟨g,ys,k1,(hg.block g (h.lt b g (Ex k1)) (by simp)).trans k2,k3⟩
 ·obtain⟨v,ys,k1,k2,k3⟩:=h.row b E sz gen n xs hb;refine⟨v,ys,k1,World.ownsRow.kept k2 hg ?_,k3⟩;rcases hv:v.ownBlock with _|g
  ·exact .inl rfl
  ·exact .inr (by simp)
 ·obtain⟨g,en,ck,k1,k2,k3⟩:=h.map b hh es hb;exact⟨g,en,ck,k1,(hg.block g (h.lt b g (Ex k1)) (by simp)).trans k2,k3⟩
theorem MemOk.imm_more {G:Gh} {I I':Al} {objs:List OB} {w:World} (h:MemOk G I objs w) (hle:Al.le I I') (h1:∀g o v,I' g o v->w.cell? ⟨g,o,none⟩=some v) (h2:∀b g o v,G.own b=some g->¬I' g o v):MemOk G I' objs w:=by
 refine⟨h1,fun b T cs hb=>?_,fun b E sz gen n xs hb=>?_,fun b hh es hb=>?_,h.inj,h.lt,h2,h.fresh⟩
 ·obtain⟨g,zs,k1,k2,k3,k4⟩:=h.box b T cs hb;exact⟨g,zs,k1,k2,Ad.mono (Gh.le.refl G) hle _ _ k3,k4⟩
 ·obtain⟨v,zs,k1,k2,k3,k4,k5⟩:=h.row b E sz gen n xs hb;exact⟨v,zs,k1,k2,Ad.mono (Gh.le.refl G) hle _ _ k3,k4,k5⟩
 ·obtain⟨g,en,ck,k1,k2,k3⟩:=h.map b hh es hb;exact⟨g,en,ck,k1,k2,k3.mono (Gh.le.refl G) hle⟩
theorem In.imm_more {C:Cx} {G:Gh} {I I':Al} {w:World} (h:In C G I w) (hle:Al.le I I') (hn:∀g o v,I' g o v->I g o v\/C.own g\/C.w.heap.size<=g):In C G I' w :=
 ⟨h.os,h.tape,h.output,h.size,h.block,fun g o v hi=>hle _ _ _ (h.imm g o v hi),fun g o v hi=>by rcases hn g o v hi with h1|h1;exact h.news g o v h1;exact .inr h1,h.blk,h.gh⟩
theorem Pf {C:Cx} {G:Gh} {I:Al} {objs:List OB} {w w':World} (hin:In C G I w) (h:MemOk G I objs w) (hg:w.grownBy w' none) (g n c:Nat) (xs:List AV) (ys:List Value) (hgw:w.heap.size<=g) (hnc:n<=c)
  (hd:Ad G I xs ys) (h1:∀u∈ys,u.oneCell'=true) (hc:∀(j:Nat) (u:Value),ys[j]? = some u->w'.cell? ⟨g,j,none⟩=some u) :
  ∃I',Al.le I I'/\In C G I' w'/\MemOk G I' objs w'/\Ab G I' (.row n xs) (.slice (some ⟨g,0,none⟩) n c):=by
 let I':Al:=fun g' o v=>I g' o v\/(g'=g/\ys[o]? = some v)
 have hle:Al.le I I':=fun _ _ _ hi=>.inl hi;have hin':=hin.evolve hg (by simp);have h':=h.evolve hg;refine⟨I',hle,hin'.imm_more hle ?_,h'.imm_more hle ?_ ?_,?_⟩
 ·rintro g' o v (hi|⟨rfl,_⟩)
  ·exact .inl hi
  ·exact .inr (.inr (qg hin.size hgw))
 ·rintro g' o v (hi|⟨rfl,hy⟩)
  ·exact h'.imm g' o v hi
  ·exact hc o v hy
 ·rintro b g' o v hb (hi|⟨rfl,_⟩)
  ·exact h.apart b g' o v hb hi
  ·have:=h.lt b _ hb;omega
 ·simp only[Ab];exact⟨some ⟨g,0,none⟩,c,ys,rfl,⟨hnc,by rintro _ ⟨⟩ _;rfl⟩,Ad.mono (Gh.le.refl G) hle _ _ hd,h1,fun j u hj=>⟨g,0,rfl,.inr ⟨rfl,by simpa using hj⟩⟩⟩
theorem Jq {C:Cx} {G:Gh} {I:Al} {objs:List OB} {w w':World} (hin:In C G I w) (h:MemOk G I objs w) (hg:w.grownBy w' none) (E sz n:Nat) (xs:List AV) (v:Value) (ys:List Value)
  (ho:w'.ownsRow 0 E sz v n ys) (hd:Ad G I xs ys) (h1:∀u∈ys,u.oneCell'=true) (hv:∀k,v.ownBlock=some k->w.heap.size<=k) :
  ∃G',G.le G'/\In C G' I w'/\MemOk G' I (objs++[.orow E sz 0 n xs]) w'/\Ab G' I (.orow objs.length 0) v:=by
 have hf:=h.fresh objs.length (ze _);have hle:G.le (G.row objs.length 0 v):=Gh.row_le (by intro m u hm;rw[hf.2] at hm;cases hm);have h':=h.evolve hg;have hin':=hin.evolve hg (by simp);have hbl:∀x y,(G.row objs.length 0 v).own x=some y->(x=objs.length/\v.ownBlock=some y)\/(x≠objs.length/\G.own x=some y):=by
  intro x y hx;rw[Gh.row_own _ _ _ _ hf.1] at hx
  split at hx
  ·rename_i e;exact .inl ⟨e,hx⟩
  ·rename_i e;exact .inr ⟨e,hx⟩
 have hvl:∀k,v.ownBlock=some k->k<w'.heap.size:=by
  intro k hk;rcases ho.2 with ⟨rfl,_⟩|⟨g,cap,cur,rfl,_,hh,_⟩
  ·cases hk
  ·obtain rfl:g=k:=by simpa[Value.ownBlock] using hk
   exact(Array.getElem?_eq_some_iff.1 hh).1
 refine⟨_,hle,hin'.ghost hle ?_,⟨h'.imm,?_,?_,?_,?_,?_,?_,?_⟩,?_⟩
 ·intro b g hb;rcases hbl b g hb with ⟨rfl,hb2⟩|⟨_,hb2⟩
  ·exact .inr (qg hin.size (hv _ hb2))
  ·exact hin.blk b g hb2
 ·intro b T' cs' hb;rcases zx b objs.length with hlt|hge
  ·rw[qh hlt] at hb;obtain⟨g,zs,k1,k2,k3,k4⟩:=h'.box b T' cs' hb;exact⟨g,zs,hle.blk b g k1,k2,Ad.mono hle (Al.le.refl I) _ _ k3,k4⟩
  ·rw[xv hge] at hb;rcases jw (b - objs.length) with h0|h0
   ·rw[h0] at hb;simp at hb
   ·rw[qq (by simp;omega)] at hb;cases hb
 ·intro b E' sz' gen m us hb;rcases zx b objs.length with hlt|hge
  ·rw[qh hlt] at hb;obtain⟨v',zs,k1,k2,k3,k4,k5⟩:=h'.row b E' sz' gen m us hb;refine⟨v',zs,?_,k2,Ad.mono hle (Al.le.refl I) _ _ k3,k4,?_⟩
   ·show (if b=objs.length then _ else _)=_;rw[if_neg (by omega)];exact k1
   ·exact k5
  ·rw[xv hge] at hb;have hb0:b=objs.length:=by
    rcases jw (b - objs.length) with h0|h0
    ·omega
    ·rw[qq (by simp;omega)] at hb;cases hb
   subst hb0;simp at hb;obtain⟨rfl,rfl,rfl,rfl,rfl⟩:=hb;exact⟨v,ys,by simp[Gh.row],ho,Ad.mono hle (Al.le.refl I) _ _ hd,h1,hf.1⟩
 ·intro b hh es hb;rcases zx b objs.length with hlt|hge
  ·rw[qh hlt] at hb;obtain⟨g,en,ck,k1,k2,k3⟩:=h'.map b hh es hb;exact⟨g,en,ck,hle.blk b g k1,k2,k3.mono hle (Al.le.refl I)⟩
  ·rw[xv hge] at hb;rcases jw (b - objs.length) with h0|h0
   ·rw[h0] at hb;simp at hb
   ·rw[qq (by simp;omega)] at hb;cases hb
 ·intro b b' g hb hb';rcases hbl b g hb with ⟨e1,hb2⟩|⟨_,hb2⟩<;>rcases hbl b' _ hb' with ⟨e2,hb3⟩|⟨_,hb3⟩
  ·omega
  ·have:=h.lt b' _ hb3;have:=hv _ hb2;omega
  ·have:=h.lt b _ hb2;have:=hv _ hb3;omega
  ·exact h.inj b b' g hb2 hb3
 ·intro b g hb;rcases hbl b g hb with ⟨rfl,hb2⟩|⟨_,hb2⟩
  ·exact hvl _ hb2
  ·exact h'.lt b g hb2
 ·intro b g o u hb hi;rcases hbl b g hb with ⟨rfl,hb2⟩|⟨_,hb2⟩
  ·have h7:=World.block_lt_of_cell? (h:=h.imm _ _ _ hi);have h8:=hv _ hb2;simp only at h7;omega
  ·exact h.apart b g o u hb2 hi
 ·intro b hb;simp at hb;have:=h.fresh b (by omega);refine⟨this.1,?_⟩;show (if b=objs.length then _ else _)=_;rw[if_neg (by omega)];exact this.2
 ·simp only[Ab];refine⟨0,v,by simp[Gh.row],ze _,fun _=>rfl,?_⟩;rcases ho.2 with ⟨rfl,_⟩|⟨g,cap,cur,rfl,_⟩<;>rfl
theorem N8 {C:Cx} {G:Gh} {I:Al} {objs:List OB} {w w':World} (hin:In C G I w) (h:MemOk G I objs w) (b E sz gen n n':Nat) (xs xs':List AV) (v v':Value) (ys':List Value) (hb:objs[b]? = some (.orow E sz gen n xs)) (hcur:G.cur b=some (gen,v))
  (hg:w.grownBy w' v.ownBlock) (ho:w'.ownsRow 0 E sz v' n' ys') (hd:Ad G I xs' ys') (h1:∀u∈ys',u.oneCell'=true) (hv:v'.ownBlock=v.ownBlock\/v'.ownBlock=some w.heap.size) :
  ∃G',G.le G'/\In C G' I w'/\MemOk G' I (objs.set b (.orow E sz (gen+1) n' xs')) w'/\Ab G' I (.orow b (gen+1)) v':=by
 obtain⟨v0,ys,m1,m2,m3,m4,m5⟩:=h.row b E sz gen n xs hb;obtain rfl:v=v0:=by rw[hcur] at m1;injection m1 with m1;injection m1 with _ m1
 have hblt:b<objs.length:=by
  rcases zx b objs.length with h0|h0
  ·exact h0
  ·rw[qq h0] at hb;cases hb
 have hob:G.own b=v.ownBlock:=I5 m5 hcur;have hle:G.le (G.row b (gen+1) v'):=Gh.row_le (by intro m u hm;rw[hcur] at hm;injection hm with hm;injection hm with hm _;omega);have hbl:∀x y,(G.row b (gen+1) v').own x=some y->(x=b/\v'.ownBlock=some y)\/(x≠b/\G.own x=some y):=by
  intro x y hx;rw[Gh.row_own _ _ _ _ m5] at hx
  split at hx
  ·rename_i e;exact .inl ⟨e,hx⟩
  ·rename_i e;exact .inr ⟨e,hx⟩
 have hvl:∀k,v'.ownBlock=some k->k<w'.heap.size:=by
  intro k hk;rcases ho.2 with ⟨rfl,_⟩|⟨g,cap,cur,rfl,_,hh,_⟩
  ·cases hk
  ·obtain rfl:g=k:=by simpa[Value.ownBlock] using hk
   exact(Array.getElem?_eq_some_iff.1 hh).1
 have hin':In C G I w':=hin.evolve hg (fun k hk=>hin.blk b k (hob.trans hk));refine⟨_,hle,hin'.ghost hle ?_,⟨?_,?_,?_,?_,?_,?_,?_,?_⟩,?_⟩
 ·intro x g hx;rcases hbl x g hx with ⟨_,hx2⟩|⟨_,hx2⟩
  ·rcases hv with hv|hv
   ·exact hin.blk b g (hob.trans (hv▸hx2))
   ·rw[hv] at hx2;injection hx2 with hx2;subst hx2;exact .inr hin.size
  ·exact hin.blk x g hx2
 ·intro g o u hi;rw[<-h.imm g o u hi];refine Uo (hg.block g (World.block_lt_of_cell? (h:=h.imm g o u hi)) ?_);intro e;exact h.apart b g o u (hob.trans e.symm) hi
 ·intro x T' cs' hx
  by_cases e:x=b
  ·subst e;rw[zm hblt] at hx;simp at hx
  ·rw[zo (fun e'=>e e'.symm)] at hx;obtain⟨g,zs,k1,k2,k3,k4⟩:=h.box x T' cs' hx;refine⟨g,zs,hle.blk _ _ k1,(hg.block g (h.lt x g (Ex k1)) ?_).trans k2,Ad.mono hle (Al.le.refl I) _ _ k3,k4⟩;intro e2;exact e (h.inj x b g (Ex k1) (hob.trans e2.symm))
 ·intro x E' sz' gen' m us hx
  by_cases e:x=b
  ·subst e;rw[zm hblt] at hx;simp at hx;obtain⟨rfl,rfl,rfl,rfl,rfl⟩:=hx;exact⟨v',ys',by simp[Gh.row],ho,Ad.mono hle (Al.le.refl I) _ _ hd,h1,m5⟩
  ·rw[zo (fun e'=>e e'.symm)] at hx;obtain⟨u,zs,k1,k2,k3,k4,k5⟩:=h.row x E' sz' gen' m us hx;refine⟨u,zs,?_,World.ownsRow.kept k2 hg ?_,Ad.mono hle (Al.le.refl I) _ _ k3,k4,k5⟩
   ·show (if x=b then _ else _)=_;rw[if_neg e];exact k1
   ·rcases hu:u.ownBlock with _|g
    ·exact .inl rfl
    ·refine .inr (fun e2=>e (h.inj x b g ?_ (hob.trans e2.symm)));rw[I5 k5 k1,hu]
 ·intro x hh es hx
  by_cases e:x=b
  ·subst e;rw[zm hblt] at hx;simp at hx
  ·rw[zo (fun e'=>e e'.symm)] at hx;obtain⟨g,en,ck,k1,k2,k3⟩:=h.map x hh es hx;refine⟨g,en,ck,hle.blk _ _ k1,(hg.block g (h.lt x g (Ex k1)) ?_).trans k2,k3.mono hle (Al.le.refl I)⟩;intro e2;exact e (h.inj x b g (Ex k1) (hob.trans e2.symm))
 ·intro x x' g hx hx';rcases hbl x g hx with ⟨e1,hx2⟩|⟨n1,hx2⟩<;>rcases hbl x' _ hx' with ⟨e2,hx3⟩|⟨n2,hx3⟩
  ·omega
  ·rcases hv with hv|hv
   ·rw[e1];exact h.inj b x' g (hob.trans (hv▸hx2)) hx3
   ·rw[hv] at hx2;injection hx2 with hx2;have:=h.lt x' _ hx3;omega
  ·rcases hv with hv|hv
   ·rw[e2];exact h.inj x b g hx2 (hob.trans (hv▸hx3))
   ·rw[hv] at hx3;injection hx3 with hx3;have:=h.lt x _ hx2;omega
  ·exact h.inj x x' g hx2 hx3
 ·intro x g hx;rcases hbl x g hx with ⟨_,hx2⟩|⟨_,hx2⟩
  ·exact hvl _ hx2
  ·exact Nat.lt_of_lt_of_le (h.lt x g hx2) hg.size
 ·intro x g o u hx hi;rcases hbl x g hx with ⟨_,hx2⟩|⟨_,hx2⟩
  ·rcases hv with hv|hv
   ·exact h.apart b g o u (hob.trans (hv▸hx2)) hi
   ·rw[hv] at hx2;injection hx2 with hx2
    have h7:=World.block_lt_of_cell? (h:=h.imm _ _ _ hi);simp only at h7;omega
  ·exact h.apart x g o u hx2 hi
 ·intro x hx;rw[zh] at hx;have:=h.fresh x hx;refine⟨this.1,?_⟩;show (if x=b then _ else _)=_;rw[if_neg (by omega)];exact this.2
 ·simp only[Ab];refine⟨gen+1,v',by simp[Gh.row],ze _,fun _=>rfl,?_⟩;rcases ho.2 with ⟨rfl,_⟩|⟨g,cap,cur,rfl,_⟩<;>rfl
def DQ (l:List UInt8):List AV:=l.map fun c=>.i .u8 (c.toNat:Int)
theorem Ow (G:Gh) (I:Al):∀l:List UInt8,Ad G I (DQ l) (l.map fun c=>Value.int .u8 (c.toNat:Int))
 | []=>Ad.nil
 | c::l=>Ad.cons (by simp[Ab]) (Ow G I l)
theorem MK {G:Gh} {I:Al}:∀{l:List UInt8} {ys:List Value},Ad G I (DQ l) ys->ys=l.map fun c=>Value.int .u8 (c.toNat:Int)
 | [],ys,h=>by simpa[DQ,Ad] using h
 | c::l,ys,h=>by
  simp only[DQ,zl,Ad,Ab] at h;obtain⟨y,ys',rfl,rfl,h3⟩:=h;simp only[zl];rw[MK (l:=l) h3]
theorem Vw (s:ByteArray):Lib.strCells s=s.data.toList.map fun c=>Value.int .u8 (c.toNat:Int):=by simp[Lib.strCells]
theorem R4 (l:List UInt8):∀u∈l.map (fun c=>Value.int .u8 (c.toNat:Int)),u.oneCell'=true:=by
 intro u hu;obtain⟨c,_,rfl⟩:=jr.1 hu
 rfl
section
variable {P:Program}
theorem Wq (w:World) (base:Nat) (t ty e:TypeId) (i:TypeInfo) (size:Nat) (ht:P.underlying t=some (.slice e)) (hi:P.info? e=some i)
  (v:Value) (n:Nat) (xs:List Value) (hown:w.ownsRow base e size v n xs) (c:Nat):(Builtin.append_ #[t,t] ty #[v,.slice none 0 c]).run P w=.ok v w:=by
 rcases hown.2 with ⟨rfl,rfl⟩|⟨g,cap,cur,rfl,_,_,hnc,_⟩
 ·simp[Builtin.append_,run_underlying ht,sizeOf,typeInfo,hi,Builtin.lenOf,Builtin.firstCells]
 ·simp[Builtin.append_,run_underlying ht,sizeOf,typeInfo,hi,Builtin.lenOf,Builtin.firstCells,hnc,storeCells]
theorem Wr (w:World) (t u ty e:TypeId) (i:TypeInfo) (ht:P.underlying t=some (.slice e)) (hu:P.underlying u=some .string) (hi:P.info? e=some i) (hz:i.zero=some (.int .u8 0)) (hsize:i.size=1) (hby:i.bytes=1)
  (v:Value) (n:Nat) (xs:List Value) (hown:w.ownsRow 0 e 1 v n xs) (s:ByteArray) (hb:n+s.size<=140737488355328) :
  ∃v' w',(Builtin.append_ #[t,u] ty #[v,.string s]).run P w=.ok v' w'/\w'.ownsRow 0 e 1 v' (n+s.size) (xs++Lib.strCells s)/\w.grownBy w' v.ownBlock/\(v'.ownBlock=v.ownBlock\/v'.ownBlock=some w.heap.size):=by
 obtain⟨v',w',hr,h1,h2,h3⟩:=Lib.run_append_own_string (P:=P) w 0 t u ty e i ht hu hi hz hsize hby v n xs hown s (by simp only[maxLen];omega) hb (zd _);refine⟨v',w',hr,h1,h2,?_⟩;rcases hown.2 with ⟨rfl,rfl⟩|⟨g,cap,cur,rfl,_,hg,hnc,hcm,hcs,htake⟩
 ·by_cases hm:s.size=0
  ·rw[h3.2 ⟨rfl,hm⟩];exact .inl rfl
  ·have hr2:=run_append_nil_string (P:=P) w t u ty e i (.int .u8 0) ht hu hi hz s (by omega) (by omega) (by rw[hby];omega);rw[hr] at hr2;injection hr2 with e1 _
   rw[e1];exact .inr rfl
 ·by_cases hroom:n+s.size<=cap
  ·have hcs':cur.size=cap:=by simpa using hcs
   have hr2:=Lib.run_append_room_string (P:=P) w t u ty e i ht hu hi hsize g n cap cur hg s hroom (by omega);rw[hr] at hr2;injection hr2 with e1 _
   rw[e1];exact .inl rfl
  ·have holds:∀j u,xs[j]? = some u->w.cell? ((⟨g,0,none⟩:Addr).add j)=some u:=hown.cells (g:=g) rfl;have hxl:xs.length=n:=by simpa using hown.1
   have hr2:=Lib.run_append_grow_string (P:=P) w t u ty e i (.int .u8 0) ht hu hi hz ⟨g,0,none⟩ n cap xs (by rw[hsize];simpa using hxl) holds s (by omega) (by omega) (by rw[hby];exact growslice_fits (by omega) (by omega));rw[hr] at hr2;injection hr2 with e1 _
   rw[e1];exact .inr rfl
variable {C:Cx} {type:TypeId} {objs:List OB} {tm:List AV} {K:List OB->AV->Prop}
def Ec (objs:List OB) (v:AV):Option (Nat×List AV) :=
 match v with
 | .row m ys=>some (m,ys)
 | .nil=>some (0,[])
 | .zn _=>some (0,[])
 | .orow b gen=>match objs[b]? with
  | some (.orow _ _ gen' n xs)=>if gen'=gen then some (n,xs) else none
  | _=>none
 | _=>none
theorem fT {v:AV} {p:Nat×List AV} (h:Ec [] v=some p):Ec objs v=some p:=by
 cases v<;>first|exact h|cases h
theorem LS {G:Gh} {I:Al} {w:World} (hmem:MemOk G I objs w) {v:AV} {m:Nat} {ys:List AV} {y:Value} (hs:Ec objs v=some (m,ys)) (h:Ab G I v y):∃a c us,y=.slice a m c/\Ad G I ys us/\(∀u∈us,u.oneCell'=true)/\∀(j:Nat) u,us[j]? = some u->∃g off,a=some ⟨g,off,none⟩/\w.cell? ⟨g,off+j,none⟩=some u:=by
 cases v<;>simp only[Ec,reduceCtorEq,zy.injEq,Prod.mk.injEq] at hs
 ·obtain⟨rfl,rfl⟩:=hs;simp only[Ab] at h;obtain⟨a,c,us,h1,_,h2,h3,h4⟩:=h;exact⟨a,c,us,h1,h2,h3,fun j u hj=>by obtain⟨g,off,e,hi⟩:=h4 j u hj;exact⟨g,off,e,hmem.imm _ _ _ hi⟩⟩
 ·rename_i b gen
  split at hs
  ·rename_i E sz gen' n xs hb
   split at hs
   ·rename_i hg;subst hg;injection hs with hs;injection hs with e1 e2;subst e1 e2
    obtain⟨v',vs,m1,m2,m3,m4,m5⟩:=hmem.row b E sz gen' n xs hb;simp only[Ab] at h;obtain⟨g0,v,k1,k2,k3,_⟩:=h;rw[k1] at m1;injection m1 with m1;injection m1 with m1 m6
    have hv:=k3 m1.symm;subst m1 m6 hv;rcases m2.2 with ⟨rfl,rfl⟩|⟨g,cap,cur,rfl,hx1,hx2,hx3,hx4⟩
    ·have hvs:vs=[]:=qz (by simpa using m2.1);subst hvs;exact⟨none,0,[],rfl,m3,by simp,by simp⟩
    ·refine⟨some ⟨g,0,none⟩,cap,vs,rfl,m3,m4,fun j u hj=>⟨g,0,rfl,?_⟩⟩;have:=m2.cells (g:=g) rfl j u hj;rw[CG] at this;exact this
   ·cases hs
  ·cases hs
 ·obtain⟨rfl,rfl⟩:=hs;simp only[Ab] at h;obtain⟨a,c,h1,_⟩:=h;exact⟨a,c,[],h1,Ad.nil,by simp,by simp⟩
 ·obtain⟨rfl,rfl⟩:=hs;simp only[Ab] at h;exact⟨none,0,[],h,Ad.nil,by simp,by simp⟩
theorem sD (T ty:TypeId) (x y:Operand) (e:TypeId) (i:TypeInfo) (z:Value) (hu:P.underlying T=some (.slice e)) (hi:P.info? e=some i) (hz:i.zero=some z) (hzs:z.cells.size=i.size) (hsz:0<i.size)
  (b gen n m:Nat) (xs ys:List AV) (hx:(Ag x).ev tm=.orow b gen) (hb:objs[b]? = some (.orow e i.size gen n xs)) (hy:Ec objs ((Ag y).ev tm)=some (m,ys)) (hm:ys.length=m*i.size) (hbytes:(n+m)*i.bytes<=140737488355328) (hmax:n+m<=140737488355328)
  (h:K (objs.set b (.orow e i.size (gen+1) (n+m) (xs++ys))) (.orow b (gen+1))):AH P C (.call { callee:=.builtin .append,args:=#[x,y],argTypes:=#[T,T] }) ty objs tm K:=by
 intro G I a w hin hmem hd o next Q ho ht hn;have e1:=Ar hd x;rw[hx] at e1;simp only[Ab] at e1;obtain⟨g',v,k1,k2,k3,_⟩:=e1;obtain⟨v',vs,m1,m2,m3,m4,m5⟩:=hmem.row b _ _ gen n xs hb;rw[k1] at m1;injection m1 with m1;injection m1 with m1 m6
 have hv:=k3 m1.symm;subst m1 m6;obtain⟨q,c,us,f1,f2,f3,f4⟩:=LS hmem hy (Ar hd y);have hl:=f2.length;have hrun:∃v' w',(Builtin.append_ #[T,T] o.type #[v,.slice q m c]).run P w=.ok v' w'/\w'.ownsRow 0 e i.size v' (n+m) (vs++us)/\w.grownBy w' v.ownBlock/\(v'.ownBlock=v.ownBlock\/v'.ownBlock=some w.heap.size):=by
  cases q with
  | none=>
   have hus:us=[]:=by
    cases us with
    | nil=>rfl
    | cons u us=>obtain⟨g,off,e,_⟩:=f4 0 u rfl;cases e
   subst hus;have hm0:m=0:=by
    rcases jw m with h0|h0
    ·exact h0
    ·have:=Nat.mul_pos h0 hsz;simp at hl;rw[hl] at hm;simp at hm;omega
   subst hm0;exact⟨v,w,Wq w 0 T _ e i i.size hu hi v n vs m2 c,by simpa using m2,World.grownBy.refl w _,.inl rfl⟩
  | some ad=>
   have hnews:∀j u,us[j]? = some u->w.cell? (ad.add j)=some u:=by
    intro j u hj;obtain⟨g,off,e2,hI⟩:=f4 j u hj;injection e2 with e2;subst e2
    rw[CG];exact hI
   obtain⟨v',w',r1,r2,r3,_,r5⟩:=run_append_own_at (P:=P) w 0 T o.type e i z i.size i.bytes hu hi hz rfl rfl hzs hsz v n vs m2 ad m c us (by omega) hnews f3 (by simp only[maxLen];omega) hbytes (zd _);exact⟨v',w',r1,r2,r3,r5⟩
 obtain⟨v',w',r1,r2,r3,r4⟩:=hrun;obtain⟨G',s1,s2,s3,s4⟩:=N8 hin hmem b _ _ g' n (n+m) xs (xs++ys) v v' (vs++us) hb k1 r3 r2 (Ad.append m3 f2) (by
  intro u hu;rcases qc.1 hu with hu|hu;exact m4 u hu;exact f3 u hu) r4
 refine EV (y:=v') (w':=w') ?_ (hn _ _ _ _ _ _ h s1 (Al.le.refl I) s2 s3 s4);unfold execOp;rw[ho];simp only[resolve,invoke,builtin,Sem.run_bind,Sem.run_pure,Result.andThen_ok,List.map_toArray,zl,qa,hv,f1];rw[r1];rfl
theorem Y9 (T ty:TypeId) (x y:Operand) (e:TypeId) (i:TypeInfo) (z:Value) (hu:P.underlying T=some (.slice e)) (hi:P.info? e=some i) (hz:i.zero=some z) (hzs:z.cells.size=i.size) (hsz:0<i.size)
  (m:Nat) (ys:List AV) (hx:(Ag x).ev tm=.nil) (hy:Ec objs ((Ag y).ev tm)=some (m,ys)) (hm:ys.length=m*i.size) (hbytes:m*i.bytes<=140737488355328) (hmax:m<=140737488355328)
  (h:K (objs++[.orow e i.size 0 m ys]) (.orow objs.length 0)):AH P C (.call { callee:=.builtin .append,args:=#[x,y],argTypes:=#[T,T] }) ty objs tm K:=by
 intro G I a w hin hmem hd o next Q ho ht hn;have hv:=Ar hd x;rw[hx] at hv;simp only[Ab] at hv;have m2:w.ownsRow 0 e i.size (.slice none 0 0) 0 []:=World.ownsRow_nil w 0 e _;obtain⟨q,c,us,f1,f2,f3,f4⟩:=LS hmem hy (Ar hd y);have hl:=f2.length;have hrun:∃v' w',(Builtin.append_ #[T,T] o.type #[.slice none 0 0,.slice q m c]).run P w=.ok v' w'/\w'.ownsRow 0 e i.size v' m us/\w.grownBy w' none/\(v'.ownBlock=none\/v'.ownBlock=some w.heap.size):=by
  cases q with
  | none=>
   have hus:us=[]:=by
    cases us with
    | nil=>rfl
    | cons u us=>obtain⟨g,off,e,_⟩:=f4 0 u rfl;cases e
   subst hus;have hm0:m=0:=by
    rcases jw m with h0|h0
    ·exact h0
    ·have:=Nat.mul_pos h0 hsz;simp at hl;rw[hl] at hm;simp at hm;omega
   subst hm0;exact⟨_,w,Wq w 0 T _ e i i.size hu hi _ 0 [] m2 c,m2,World.grownBy.refl w _,.inl rfl⟩
  | some ad=>
   have hnews:∀j u,us[j]? = some u->w.cell? (ad.add j)=some u:=by
    intro j u hj;obtain⟨g,off,e2,hI⟩:=f4 j u hj;injection e2 with e2;subst e2
    rw[CG];exact hI
   obtain⟨v',w',r1,r2,r3,_,r5⟩:=run_append_own_at (P:=P) w 0 T o.type e i z i.size i.bytes hu hi hz rfl rfl hzs hsz (.slice none 0 0) 0 [] m2 ad m c us (by omega) hnews f3 (by simp only[maxLen];omega) (by simpa using hbytes) (zd _);exact⟨v',w',r1,by simpa using r2,r3,r5⟩
 obtain⟨v',w',r1,r2,r3,r4⟩:=hrun;obtain⟨G',s1,s2,s3,s4⟩:=Jq hin hmem r3 e i.size m ys v' us r2 f2 f3 (by
  intro k hk;rcases r4 with r4|r4
  ·rw[r4] at hk;cases hk
  ·rw[r4] at hk;injection hk with hk;omega)
 refine EV (y:=v') (w':=w') ?_ (hn _ _ _ _ _ _ h s1 (Al.le.refl I) s2 s3 s4);unfold execOp;rw[ho];simp only[resolve,invoke,builtin,Sem.run_bind,Sem.run_pure,Result.andThen_ok,List.map_toArray,zl,qa,hv,f1];rw[r1];rfl
theorem YJ (T ty:TypeId) (x y:Operand) (e:TypeId) (i:TypeInfo) (z:Value) (hu:P.underlying T=some (.slice e)) (hi:P.info? e=some i) (hz:i.zero=some z) (hsz:0<i.size)
  (n m:Nat) (xs ys:List AV) (hx:(Ag x).ev tm=.crow n xs) (hy:Ec objs ((Ag y).ev tm)=some (m,ys)) (hm:ys.length=m*i.size) (hxl:xs.length=n*i.size) (h0:0<m) (hbytes:(n+m)*i.bytes<=140737488355328) (hmax:n+m<=140737488355328)
  (h:K objs (.row (n+m) (xs++ys))):AH P C (.call { callee:=.builtin .append,args:=#[x,y],argTypes:=#[T,T] }) ty objs tm K:=by
 intro G I a w hin hmem hd o next Q ho ht hn;have e1:=Ar hd x;rw[hx] at e1;simp only[Ab] at e1;obtain⟨q0,vs,v1,v2,v3,v4,v5⟩:=e1;obtain⟨q,c,us,f1,f2,f3,f4⟩:=LS hmem hy (Ar hd y);have hl:=f2.length;have hvl:=v3.length;have hpos:0<us.length:=by rw[<-hl,hm];exact Nat.mul_pos h0 hsz
 obtain⟨ad,rfl⟩:∃ad,q=some ad:=by
  obtain⟨g,off,e,_⟩:=f4 0 us[0] (zk hpos);exact⟨_,e⟩
 have hnews:∀j u,us[j]? = some u->w.cell? (ad.add j)=some u:=by
  intro j u hj;obtain⟨g,off,e2,hI⟩:=f4 j u hj;injection e2 with e2;subst e2
  rw[CG];exact hI
 have h63:n+m<=9223372036854775807:=by omega
 have hrun:∃c' cells,(Builtin.append_ #[T,T] o.type #[.slice q0 n n,.slice (some ad) m c]).run P w=.ok (.slice (some ⟨w.heap.size,0,none⟩) (n+m) c') (w.drew.alloc (.cells cells e))/\n+m<=c'/\∀(j:Nat) (u:Value),(vs++us)[j]? = some u->cells[j]? = some u:=by
  cases q0 with
  | none=>
   have hvs:vs=[]:=by
    cases vs with
    | nil=>rfl
    | cons u us=>obtain⟨g,off,e,_⟩:=v5 0 u rfl;cases e
   subst hvs;have hn0:n=0:=by
    rcases jw n with h1|h1
    ·exact h1
    ·have:=Nat.mul_pos h1 hsz;simp at hvl;rw[hvl] at hxl;simp at hxl;omega
   subst hn0;have hr:=run_append_nil (P:=P) w T o.type e i z hu hi hz ad m c us (by omega) hnews h0 (by omega) (by have hb:=hbytes;simp only[qj] at hb;omega);refine⟨_,_,by rw[qj];exact hr,by rw[qj];exact grownCap_ge w m 0 e,fun j u hj=>?_⟩;rw[qo] at hj;rw[Array.getElem?_append_left (by have:=(zf.1 hj).1;simpa using this)];simpa using hj
  | some b=>
   have holds:∀j v,vs[j]? = some v->w.cell? (b.add j)=some v:=by
    intro j u hj;obtain⟨g,off,e2,hI⟩:=v5 j u hj;injection e2 with e2;subst e2
    rw[CG];exact hmem.imm _ _ _ hI
   have hr:=run_append_grow (P:=P) w T o.type e i z hu hi hz b n n vs (by omega) holds ad m c us (by omega) hnews (by omega) (by omega) (growslice_fits (by omega) hbytes);refine⟨_,_,hr,grownCap_ge w (n+m) n e,fun j u hj=>?_⟩;rw[Array.getElem?_append_left (by have:=(zf.1 hj).1;simpa using this)];simpa using hj
 obtain⟨c',cells,r1,r2,r3⟩:=hrun;obtain⟨I',s1,s2,s3,s4⟩:=Pf hin hmem (w':=w.drew.alloc (.cells cells e)) ⟨rfl,rfl,rfl,by simp,fun k hk _=>heap_alloc_old w.drew _ hk⟩ w.heap.size (n+m) c' (xs++ys) (vs++us) (ze _) r2 (Ad.append v3 f2) (by
  intro u hu;rcases qc.1 hu with hu|hu;exact v4 u hu;exact f3 u hu) (fun j u hj=>by
  have h9:(w.drew.alloc (.cells cells e)).cell? ⟨w.heap.size,j,none⟩=_:=World.cell?_alloc_new w.drew cells e j;rw[h9];exact r3 j u hj)
 refine EV (y:=.slice (some ⟨w.heap.size,0,none⟩) (n+m) c') (w':=w.drew.alloc (.cells cells e)) ?_ (hn _ _ _ _ _ _ h (Gh.le.refl G) s1 s2 s3 s4);unfold execOp;rw[ho];simp only[resolve,invoke,builtin,Sem.run_bind,Sem.run_pure,Result.andThen_ok,List.map_toArray,zl,qa,v1,f1];rw[r1];rfl
theorem bJ (T ty:TypeId) (x y:Operand) (e:TypeId) (i:TypeInfo) (z:Value) (hu:P.underlying T=some (.slice e)) (hi:P.info? e=some i) (hz:i.zero=some z) (hzs:z.cells.size=i.size) (hsz:0<i.size)
  (n m:Nat) (xs ys:List AV) (hx:(Ag x).ev tm=.crow n xs) (hy:Ec objs ((Ag y).ev tm)=some (m,ys)) (hm:ys.length=m*i.size) (hxl:xs.length=n*i.size) (h0:0<m) (hbytes:(n+m)*i.bytes<=140737488355328) (hmax:n+m<=140737488355328)
  (h:K (objs++[.orow e i.size 0 (n+m) (xs++ys)]) (.orow objs.length 0)):AH P C (.call { callee:=.builtin .append,args:=#[x,y],argTypes:=#[T,T] }) ty objs tm K:=by
 intro G I a w hin hmem hd o next Q ho ht hn;have e1:=Ar hd x;rw[hx] at e1;simp only[Ab] at e1;obtain⟨q0,vs,v1,v2,v3,v4,v5⟩:=e1;obtain⟨q,c,us,f1,f2,f3,f4⟩:=LS hmem hy (Ar hd y);have hl:=f2.length;have hvl:=v3.length;have hpos:0<us.length:=by rw[<-hl,hm];exact Nat.mul_pos h0 hsz
 obtain⟨ad,rfl⟩:∃ad,q=some ad:=by
  obtain⟨g,off,e,_⟩:=f4 0 us[0] (zk hpos);exact⟨_,e⟩
 have hnews:∀j u,us[j]? = some u->w.cell? (ad.add j)=some u:=by
  intro j u hj;obtain⟨g,off,e2,hI⟩:=f4 j u hj;injection e2 with e2;subst e2
  rw[CG];exact hI
 have h63:n+m<=9223372036854775807:=by omega
 have grown:∀(old:Nat),old<n+m ->
   (w.drew.alloc (.cells (vs.toArray++us.toArray++Builtin.zeroCells z.cells (grownCap w (n+m) old e - (n+m))) e)).ownsRow 0 e i.size
    (.slice (some ⟨w.heap.size,0,none⟩) (n+m) (grownCap w (n+m) old e)) (n+m) (vs++us) /\
   w.grownBy (w.drew.alloc (.cells (vs.toArray++us.toArray++Builtin.zeroCells z.cells (grownCap w (n+m) old e - (n+m))) e)) none:=by
  intro old ho;have hlen:(vs++us).length=(n+m)*i.size:=by rw[zg,<-hvl,hxl,<-hl,hm,Nat.add_mul]
  have hge:=grownCap_ge w (n+m) old e;have hcm:grownCap w (n+m) old e<=maxLen:=grownCap_le_maxLen w (n+m) old e (by simp only[maxLen];omega);refine⟨⟨hlen,.inr ⟨w.heap.size,_,_,rfl,zd _,heap_alloc_new w.drew _,hge,hcm,?_,?_⟩⟩,⟨rfl,rfl,rfl,by simp,fun k hk _=>heap_alloc_old w.drew _ hk⟩⟩
  ·have e1:vs.length+us.length=(n+m)*i.size:=by rw[<-zg];exact hlen
   simp only[Array.size_append,List.size_toArray,size_zeroCells,hzs,e1,<-Nat.add_mul]
   congr 1
   omega
  ·simp only[Array.toList_append,zu];rw[<-zu,<-hlen];exact List.take_left
 have hrun:∃v' w',(Builtin.append_ #[T,T] o.type #[.slice q0 n n,.slice (some ad) m c]).run P w=.ok v' w'/\w'.ownsRow 0 e i.size v' (n+m) (vs++us)/\w.grownBy w' none/\v'.ownBlock=some w.heap.size:=by
  cases q0 with
  | none=>
   have hvs:vs=[]:=by
    cases vs with
    | nil=>rfl
    | cons u us=>obtain⟨g,off,e,_⟩:=v5 0 u rfl;cases e
   subst hvs;have hn0:n=0:=by
    rcases jw n with h1|h1
    ·exact h1
    ·have:=Nat.mul_pos h1 hsz;simp at hvl;rw[hvl] at hxl;simp at hxl;omega
   subst hn0;have hr:=run_append_nil (P:=P) w T o.type e i z hu hi hz ad m c us (by omega) hnews h0 (by omega) (by have hb:=hbytes;simp only[qj] at hb;omega);have hgr:=grown 0 (by omega);simp only[qo,qj] at hgr hr ⊢;exact⟨_,_,hr,by simpa using hgr.1,by simpa using hgr.2,rfl⟩
  | some b=>
   have holds:∀j v,vs[j]? = some v->w.cell? (b.add j)=some v:=by
    intro j u hj;obtain⟨g,off,e2,hI⟩:=v5 j u hj;injection e2 with e2;subst e2
    rw[CG];exact hmem.imm _ _ _ hI
   have hr:=run_append_grow (P:=P) w T o.type e i z hu hi hz b n n vs (by omega) holds ad m c us (by omega) hnews (by omega) (by omega) (growslice_fits (by omega) hbytes);exact⟨_,_,hr,(grown n (by omega)).1,(grown n (by omega)).2,rfl⟩
 obtain⟨v',w',r1,r2,r3,r4⟩:=hrun;obtain⟨G',s1,s2,s3,s4⟩:=Jq hin hmem r3 e i.size (n+m) (xs++ys) v' (vs++us) r2 (Ad.append v3 f2) (by
  intro u hu;rcases qc.1 hu with hu|hu;exact v4 u hu;exact f3 u hu) (by
  intro k hk;rw[r4] at hk;injection hk with hk;omega)
 refine EV (y:=v') (w':=w') ?_ (hn _ _ _ _ _ _ h s1 (Al.le.refl I) s2 s3 s4);unfold execOp;rw[ho];simp only[resolve,invoke,builtin,Sem.run_bind,Sem.run_pure,Result.andThen_ok,List.map_toArray,zl,qa,v1,f1];rw[r1];rfl
theorem Za (T U ty:TypeId) (x y:Operand) (e:TypeId) (i:TypeInfo) (hu:P.underlying T=some (.slice e)) (hus:P.underlying U=some .string) (hi:P.info? e=some i) (hz:i.zero=some (.int .u8 0)) (hsize:i.size=1) (hby:i.bytes=1)
  (b gen n:Nat) (xs:List AV) (l:List UInt8) (hx:(Ag x).ev tm=.orow b gen) (hb:objs[b]? = some (.orow e 1 gen n xs)) (hy:(Ag y).ev tm=.s l) (hbytes:n+l.length<=140737488355328)
  (h:K (objs.set b (.orow e 1 (gen+1) (n+l.length) (xs++DQ l))) (.orow b (gen+1))):AH P C (.call { callee:=.builtin .append,args:=#[x,y],argTypes:=#[T,U] }) ty objs tm K:=by
 intro G I a w hin hmem hd o next Q ho ht hn;have e1:=Ar hd x;rw[hx] at e1;simp only[Ab] at e1;obtain⟨g',v,k1,k2,k3,_⟩:=e1;obtain⟨v',vs,m1,m2,m3,m4,m5⟩:=hmem.row b _ _ gen n xs hb;rw[k1] at m1;injection m1 with m1;injection m1 with m1 m6
 have hv:=k3 m1.symm;subst m1 m6;have e2:=Ar hd y;rw[hy] at e2;simp only[Ab] at e2;obtain⟨v',w',r1,r2,r3,r4⟩:=Wr (P:=P) w T U o.type e i hu hus hi hz hsize hby v n vs m2 ⟨l.toArray⟩ (by rw[G7];exact hbytes);rw[G7,Vw] at r2;obtain⟨G',s1,s2,s3,s4⟩:=N8 hin hmem b _ _ g' n (n+l.length) xs (xs++DQ l) v v' _ hb k1 r3 r2 (Ad.append m3 (Ow G I l)) (by
  intro u hu;rcases qc.1 hu with hu|hu;exact m4 u hu;exact R4 l u hu) r4
 refine EV (y:=v') (w':=w') ?_ (hn _ _ _ _ _ _ h s1 (Al.le.refl I) s2 s3 s4);unfold execOp;rw[ho];simp only[resolve,invoke,builtin,Sem.run_bind,Sem.run_pure,Result.andThen_ok,List.map_toArray,zl,qa,hv,e2];rw[r1];rfl
theorem bH (T U ty:TypeId) (x y:Operand) (e:TypeId) (i:TypeInfo) (hu:P.underlying T=some (.slice e)) (hus:P.underlying U=some .string) (hi:P.info? e=some i) (hz:i.zero=some (.int .u8 0)) (hsize:i.size=1) (hby:i.bytes=1)
  (l:List UInt8) (hx:(Ag x).ev tm=.nil) (hy:(Ag y).ev tm=.s l) (hbytes:l.length<=140737488355328)
  (h:K (objs++[.orow e 1 0 l.length (DQ l)]) (.orow objs.length 0)):AH P C (.call { callee:=.builtin .append,args:=#[x,y],argTypes:=#[T,U] }) ty objs tm K:=by
 intro G I a w hin hmem hd o next Q ho ht hn;have hv:=Ar hd x;rw[hx] at hv;simp only[Ab] at hv;have e2:=Ar hd y;rw[hy] at e2;simp only[Ab] at e2;obtain⟨v',w',r1,r2,r3,r4⟩:=Wr (P:=P) w T U o.type e i hu hus hi hz hsize hby (.slice none 0 0) 0 [] (World.ownsRow_nil w 0 e _) ⟨l.toArray⟩ (by rw[G7];omega);rw[G7,Vw,qj,qo] at r2;obtain⟨G',s1,s2,s3,s4⟩:=Jq hin hmem r3 e 1 l.length (DQ l) v' _ r2 (Ow G I l) (R4 l) (by
  intro k hk;rcases r4 with r4|r4
  ·rw[r4] at hk;cases hk
  ·rw[r4] at hk;injection hk with hk;omega)
 refine EV (y:=v') (w':=w') ?_ (hn _ _ _ _ _ _ h s1 (Al.le.refl I) s2 s3 s4);unfold execOp;rw[ho];simp only[resolve,invoke,builtin,Sem.run_bind,Sem.run_pure,Result.andThen_ok,List.map_toArray,zl,qa,hv,e2];rw[r1];rfl
theorem sL (T:TypeId) (x y:Operand) (e:TypeId) (i:TypeInfo) (z:Value) (hu:P.underlying T=some (.slice e)) (hi:P.info? e=some i) (hz:i.zero=some z) (kl kc:IntKind) (c:Int)
  (hx:(Ag x).ev tm=.i kl 0) (hy:(Ag y).ev tm=.i kc c) (h0:0<=c) (hbytes:(i.bytes:Int)*c<=281474976710656) (hmax:c<=140737488355328)
  (h:K (objs++[.orow e i.size 0 0 []]) (.orow objs.length 0)):AH P C (.makeSlice T x y) type objs tm K:=by
 intro G I a w hin hmem hd o next Q ho ht hn;have e1:=Ar hd x;rw[hx] at e1;simp only[Ab] at e1;have e2:=Ar hd y;rw[hy] at e2;simp only[Ab] at e2;have hc:((c.toNat:Nat):Int)=c:=Int.toNat_of_nonneg h0;have hb:i.bytes*c.toNat<=281474976710656:=by
  have:((i.bytes*c.toNat:Nat):Int)<=281474976710656:=by rw[Int.natCast_mul,hc];exact hbytes
  omega
 obtain⟨w',r1,r2,r3⟩:=run_make_own (P:=P) w 0 T e i z i.size hu hi hz rfl kl kc c.toNat hb (by simp only[maxLen];omega) (zd _);rw[hc] at r1;obtain⟨G',s1,s2,s3,s4⟩:=Jq hin hmem r3 e i.size 0 [] _ [] r2 Ad.nil (by simp) (by
  intro k hk;have:w.heap.size=k:=by simpa[Value.ownBlock] using hk
  omega)
 refine EV (w':=w') ?_ (hn _ _ _ _ _ _ h s1 (Al.le.refl I) s2 s3 s4);unfold execOp;rw[ho];simp[e1,e2,r1]
theorem LK (src dst:TypeId) (x:Operand) (e:TypeId) (l:List UInt8) (hs:P.underlying src=some (.slice e)) (he:P.underlying e=some (.int .u8)) (hu:P.underlying dst=some .string)
  (hx:(∃b gen E n,(Ag x).ev tm=.orow b gen/\objs[b]? = some (.orow E 1 gen n (DQ l)))\/(∃n,(Ag x).ev tm=.row n (DQ l)/\n=l.length)\/((Ag x).ev tm=.nil/\l=[])\/(∃b off n T cs,(Ag x).ev tm=.bsl b off n/\objs[b]? = some (.box T cs)/\(cs.drop off).take n=DQ l/\l.length=n)) (h:K objs (.s l)):AH P C (.convert src dst x) type objs tm K :=
 Bk _ h fun G I a w hm hd o ho ht=>by
  have e1:=Ar hd x;refine⟨.string ⟨l.toArray⟩,?_,by simp[Ab]⟩;have key:(∃c,a.eval x=.slice none l.length c/\l=[])\/(∃(ad:Addr) (c:Nat),a.eval x=.slice (some ad) l.length c/\∀j (hj:j<l.length),w.cell? (ad.add j)=some (.int .u8 (l[j].toNat:Int))):=by
   rcases hx with ⟨b,gen,E,n,hx,hb⟩|⟨n,hx,rfl⟩|⟨hx,rfl⟩|⟨b,off,n,T,cs,hx,hb,hcs,hln⟩
   ·rw[hx] at e1;simp only[Ab] at e1;obtain⟨g',v,k1,k2,k3,_⟩:=e1;obtain⟨v',vs,m1,m2,m3,m4,m5⟩:=hm.row b _ _ gen n _ hb;rw[k1] at m1;injection m1 with m1;injection m1 with m1 m6
    have hv:=k3 m1.symm;subst m1 m6;have hvs:=MK m3;have hn:n=l.length:=by
     have:=m2.1;rw[hvs] at this;simpa using this.symm
    subst hn;rcases m2.2 with ⟨rfl,h0⟩|⟨g,cap,cur,rfl,_,hg,hnc,hcm,hcs,htake⟩
    ·have:l=[]:=qz h0;subst this;exact .inl ⟨0,hv,rfl⟩
    ·refine .inr ⟨⟨g,0,none⟩,cap,hv,fun j hj=>?_⟩;have:=m2.cells (g:=g) rfl j (.int .u8 (l[j].toNat:Int)) (by rw[hvs];simp[hj]);exact this
   ·rw[hx] at e1;simp only[Ab] at e1;obtain⟨q,c,ys,h1,h2,h3,h4,h5⟩:=e1;have hys:=MK h3
    cases l with
    | nil=>
     cases q with
     | none=>exact .inl ⟨c,by simpa using h1,rfl⟩
     | some ad=>exact .inr ⟨ad,c,by simpa using h1,by simp⟩
    | cons d l=>
     obtain⟨g,off,e2,_⟩:=h5 0 (.int .u8 (d.toNat:Int)) (by rw[hys];rfl);subst e2;refine .inr ⟨⟨g,off,none⟩,c,h1,fun j hj=>?_⟩;obtain⟨g',off',e2,hI⟩:=h5 j (.int .u8 ((d::l)[j].toNat:Int)) (by rw[hys];rw[je,zk hj];rfl);injection e2 with e2;injection e2 with e3 e4;subst e3 e4
     rw[CG];exact hm.imm _ _ _ hI
   ·rw[hx] at e1;simp only[Ab] at e1;exact .inl ⟨0,e1,rfl⟩
   ·rw[hx] at e1;simp only[Ab] at e1;obtain⟨g,c,k1,k2,k3⟩:=e1;obtain⟨g',ys,m1,m2,m3,m4⟩:=hm.box b T cs hb;obtain rfl:g=g':=zy.inj (k1.symm.trans m1);subst hln;refine .inr ⟨⟨g,off,none⟩,c,k2,fun j hj=>?_⟩;have hys:=MK (hcs▸Ad.take l.length (Ad.drop off m3));have h6:((ys.drop off).take l.length)[j]? = some (.int .u8 (l[j].toNat:Int)):=by rw[hys];simp[hj]
    rw[xw,if_pos hj,jx] at h6;rw[CG,cell_of_row w g (off+j) _ T (0,0) m2];simpa using h6
  unfold execOp;rw[ho];rcases key with ⟨c,hv,rfl⟩|⟨ad,c,hv,hc⟩
  ·simp[hv,run_convert_bytes_nil w src e hs he _ _ dst hu];rfl
  ·have:=run_convert_bytes_back (P:=P) w src dst e ad c l hs he hu (fun j hj=>hc j hj);simp[hv,this]
theorem YW (T:TypeId) (x hi':Operand) (e:TypeId) (i:TypeInfo) (hu:P.underlying T=some (.slice e)) (hi:P.info? e=some i) (b gen n E:Nat) (xs:List AV) (k:IntKind) (j:Int) (hx:(Ag x).ev tm=.orow b gen) (hb:objs[b]? = some (.orow E i.size gen n xs)) (hj:(Ag hi').ev tm=.i k j) (h0:0<=j) (h1:j<=n)
  (h:K (objs.set b (.orow E i.size (gen+1) j.toNat (xs.take (j.toNat*i.size)))) (.orow b (gen+1))):AH P C (.slice T x none (some hi') none) type objs tm K:=by
 intro G I a w hin hmem hd o next Q ho ht hn;have e1:=Ar hd x;rw[hx] at e1;simp only[Ab] at e1;have e2:=Ar hd hi';rw[hj] at e2;simp only[Ab] at e2;obtain⟨g',v,k1,k2,k3,_⟩:=e1;obtain⟨v',vs,m1,m2,m3,m4,m5⟩:=hmem.row b _ _ gen n xs hb;rw[k1] at m1;injection m1 with m1;injection m1 with m1 m6
 have hv:=k3 m1.symm;subst m1 m6;have hjn:j.toNat<=n:=by omega
 have hjs:j.toNat*i.size<=n*i.size:=Nat.mul_le_mul_right _ hjn;have hvl:=m2.1;have hrun:∃v',(Instr.sliceAt T v none (some (.int k j)) none).run P w=.ok v' w/\w.ownsRow 0 E i.size v' j.toNat (vs.take (j.toNat*i.size))/\v'.ownBlock=v.ownBlock:=by
  rcases m2.2 with ⟨rfl,hn0⟩|⟨g,cap,cur,rfl,q3,q4,q5,q6,q7,q8⟩
  ·obtain rfl:j=0:=by omega
   have q1:=run_sliceBound (P:=P) w k 0 0 .sliceAcap (by omega) (by omega);refine⟨.slice none 0 0,by simp[Instr.sliceAt,Instr.slice,run_underlying hu,Instr.sliceBounds,q1,sizeOf,typeInfo,hi],?_,rfl⟩;simpa using World.ownsRow_nil w 0 E i.size
  ·have q1:=run_sliceBound (P:=P) w k j cap .sliceAcap h0 (by omega);refine⟨.slice (some ⟨g,0,none⟩) j.toNat cap,?_,⟨by rw[zq];omega,.inr ⟨g,cap,cur,rfl,q3,q4,by omega,q6,q7,?_⟩⟩,rfl⟩
   ·simp[Instr.sliceAt,Instr.slice,run_underlying hu,Instr.sliceBounds,q1,sizeOf,typeInfo,hi,CG]
   ·rw[<-q8,List.take_take,Nat.min_eq_left hjs]
 obtain⟨v',r1,r2,r4⟩:=hrun;obtain⟨G',s1,s2,s3,s4⟩:=N8 hin hmem b _ _ g' n j.toNat xs (xs.take (j.toNat*i.size)) v v' _ hb k1 (World.grownBy.refl w _) r2 (Ad.take _ m3) (fun u hu=>m4 u (xe hu)) (.inl r4);refine EV (y:=v') (w':=w) ?_ (hn _ _ _ _ _ _ h s1 (Al.le.refl I) s2 s3 s4);unfold execOp;rw[ho];simp[e2,hv,r1]
end
theorem Vo:∀(vs:List Value) (k off:Nat) (A:Array Value),off+k+vs.length<=A.size ->
  ((vs.zipIdx k).foldl (fun cs p=>cs.setIfInBounds (off+p.2) p.1) A).toList=D4 A.toList (off+k) vs
 | [],k,off,A,h=>by simp[D4]
 | v::vs,k,off,A,h=>by
  simp only[zp] at h;rw[List.zipIdx_cons,List.foldl_cons,Vo vs (k+1) off _ (by simp;omega)];simp only[Array.toList_setIfInBounds,D4,zp];have e1:(A.toList.set (off+k) v).take (off+(k+1))=A.toList.take (off+k)++[v]:=by
   rw[show off+(k+1)=(off+k)+1 by omega,List.take_succ_eq_append_getElem (by simp;omega),List.getElem_set_self,List.take_set_of_le (ze _)]
  have e2:(A.toList.set (off+k) v).drop (off+(k+1)+vs.length)=A.toList.drop (off+k+(vs.length+1)):=by
   rw[List.drop_set_of_lt (by omega),show off+(k+1)+vs.length=off+k+(vs.length+1) by omega]
  rw[e1,e2];simp
def EM:List AV->List (Nat×Nat×AV)->Option (List AV)
 | cs,[]=>some cs
 | cs,(o,sz,v)::r=>if v.flat=true/\v.cells.length=sz/\o+sz<=cs.length then EM (D4 cs o v.cells) r else none
theorem Kq {G:Gh} {I:Al} {a:Act} {tm:List AV} (hd:Ad G I tm a.tmps.toList) (place:Nat->Option (Nat×Nat)):∀(parts:List (Nat×Operand)) (ps:List (Nat×Nat×SV)) (cs cs':List AV) (ys:Array Value),
  parts.mapM (fun p=>(place p.1).map fun q=>(q.1,q.2,Ag p.2))=some ps->EM cs (ps.map fun p=>(p.1,p.2.1,p.2.2.ev tm))=some cs'->Ad G I cs ys.toList->(∀u∈ys.toList,u.oneCell'=true) ->
  ∃ys',Instr.fill place ys (parts.map fun p=>(p.1,a.eval p.2))=some ys'/\Ad G I cs' ys'.toList/\∀u∈ys'.toList,u.oneCell'=true
 | [],ps,cs,cs',ys,hp,hf,h1,h2=>by
  simp at hp;subst hp;simp only[qa,EM,zy.injEq] at hf;subst hf;exact⟨ys,rfl,h1,h2⟩
 | (i,x)::parts,ps,cs,cs',ys,hp,hf,h1,h2=>by
  simp only[List.mapM_cons,Option.bind_eq_bind,Option.pure_def] at hp
  cases hpl:place i with
  | none=>simp[hpl] at hp
  | some q=>
   obtain⟨off,sz⟩:=q
   cases hr:parts.mapM (fun p=>(place p.1).map fun q=>(q.1,q.2,Ag p.2)) with
   | none=>simp[hpl,hr] at hp
   | some rest=>
    simp[hpl,hr] at hp;subst hp;simp only[zl,EM] at hf
    split at hf
    ·rename_i hc;obtain⟨c1,c2,c3⟩:=hc;obtain⟨d1,d2⟩:=Mr (Ar hd x) c1;have l1:=d1.length;have l2:=h1.length;have hl:off+0+(a.eval x).cells.toList.length<=ys.size:=by rw[<-l1,c2];simp at l2;omega
     have hs:=Vo (a.eval x).cells.toList 0 off ys hl;have hsz:(a.eval x).cells.size=sz:=by rw[<-c2,l1];simp
     have hfold:(a.eval x).cells.zipIdx.foldl (fun cs (p:Value×Nat)=>cs.setIfInBounds (off+p.2) p.1) ys=((a.eval x).cells.toList.zipIdx 0).foldl (fun cs p=>cs.setIfInBounds (off+p.2) p.1) ys:=by
      rw[<-Array.foldl_toList];simp
     simp only[jj] at hs;obtain⟨ys',r1,r2,r3⟩:=Kq hd place parts rest _ cs' (((a.eval x).cells.toList.zipIdx 0).foldl (fun cs p=>cs.setIfInBounds (off+p.2) p.1) ys) hr hf (by
      rw[hs];unfold D4;rw[l1];exact Ad.append (Ad.append (Ad.take _ h1) d1) (Ad.drop _ h1)) (by
      rw[hs];intro u hu;rcases qc.1 hu with hu|hu
      ·rcases qc.1 hu with hu|hu
       ·exact h2 u (xe hu)
       ·exact d2 u hu
      ·exact h2 u (xr hu))
     refine⟨ys',?_,r2,r3⟩;simp only[zl,Instr.fill,hpl];rw[if_neg (by simp[hsz];simp at l2 hl;omega)];rw[<-r1,<-hfold]
    ·cases hf
section
variable {P:Program} {C:Cx} {type:TypeId} {objs:List OB} {tm:List AV} {K:List OB->AV->Prop}
def Om (P:Program) (t:TypeId):Option (Nat->Option (Nat×Nat)) :=
 match P.underlying t with
 | some (.array _ e)=>(P.info? e).map fun ie i=>some (i*ie.size,ie.size)
 | some (.struct fields)=>(fields.toList.mapM (fun f=>(P.info? f.type).map fun i=>(f.offset,i.size))).map fun places=>(places.toArray[·]?)
 | _=>none
theorem bI (t:TypeId) (parts:Array (Nat×Operand)) (it:TypeInfo) (z:Value) (hi:P.info? t=some it) (hz:it.zero=some z) (h1:(z.cells.toList.all (·.oneCell'))=true) (place:Nat->Option (Nat×Nat)) (hpl:Om P t=some place)
  (ps:List (Nat×Nat×SV)) (hps:parts.toList.mapM (fun p=>(place p.1).map fun q=>(q.1,q.2,Ag p.2))=some ps) (cs:List AV) (hf:EM (z.cells.toList.map Fh) (ps.map fun p=>(p.1,p.2.1,p.2.2.ev tm))=some cs)
  (h:K objs (.agg cs)):AH P C (.build t parts) type objs tm K :=
 Bk _ h fun G I a w hm hd o ho ht=>by
  obtain⟨ys',r1,r2,r3⟩:=Kq hd place parts.toList ps _ cs z.cells hps hf (JM G I _) (fun u hu=>(zw.1 h1) u hu);have hb:P.built t (parts.map fun (i,x)=>(i,a.eval x)).toList=some ys':=by
   have e:(parts.map fun (i,x)=>(i,a.eval x)).toList=parts.toList.map fun p=>(p.1,a.eval p.2):=by simp
   rw[e];unfold Program.built;unfold Om at hpl
   cases hu:P.underlying t with
   | none=>rw[hu] at hpl;cases hpl
   | some d=>
    rw[hu] at hpl
    cases d<;>simp only[reduceCtorEq] at hpl
    ·rename_i n e
     cases hie:P.info? e with
     | none=>rw[hie] at hpl;cases hpl
     | some ie=>
      rw[hie] at hpl;simp at hpl;subst hpl;simp only[hi,hz,hie];exact r1
    ·rename_i fields
     cases hp:fields.toList.mapM (fun f=>(P.info? f.type).map fun i=>(f.offset,i.size)) with
     | none=>rw[hp] at hpl;cases hpl
     | some places=>
      rw[hp] at hpl;simp only[jt,zy.injEq] at hpl;subst hpl;simp only[hi,hz,hp];exact r1
  refine⟨.agg ys',?_,by simp only[Ab];exact⟨ys'.toList,by simp,r2,r3⟩⟩;unfold execOp;rw[ho];simp only[Sem.run_bind,run_build w t _ ys' hb,Result.andThen_ok];rfl
inductive ET where
 | tb
 | ts
 | ti
 | str (fs:List (Nat×Option Nat×ET))
mutual
def Ee:ET->AV->AV->Option Bool
 | .ts,.s l,.s m=>some (decide (l=m))
 | .ti,.i k x,.i k' y=>if k=k' then some (decide (x=y)) else none
 | .tb,.b x,.b y=>some (x==y)
 | .str fs,.agg xs,.agg ys=>F5 fs xs ys
 | _,_,_=>none
def F5:List (Nat×Option Nat×ET)->List AV->List AV->Option Bool
 | [],_,_=>some true
 | (o,none,e)::fs,xs,ys=>
  match xs[o]?,ys[o]? with
  | some x,some y=>match Ee e x y,F5 fs xs ys with
   | some p,some q=>some (p&&q)
   | _,_=>none
  | _,_=>none
 | (o,some n,e)::fs,xs,ys=>
  match Ee e (.agg ((xs.drop o).take n)) (.agg ((ys.drop o).take n)),F5 fs xs ys with
  | some p,some q=>some (p&&q)
  | _,_=>none
end
def Jh (P:Program) (rc:TypeId->Option ET):List Field->Option (List (Nat×Option Nat×ET))
 | []=>some []
 | f::fs=>match P.underlying f.type,P.info? f.type,rc f.type,Jh P rc fs with
  | some u, some i, some e, some r => if f.name = "_" then none else some ((f.offset, if u.isRow = true then some i.size else none, e) :: r)
  | _,_,_,_=>none
def Hm (P:Program):Nat->TypeId->Option ET
 | 0,_=>none
 | d+1,t=>match P.underlying t with
  | some .bool=>some .tb
  | some .string=>some .ts
  | some (.int _)=>some .ti
  | some (.struct fs)=>if P.stoodInHeld t=false then (Jh P (Hm P d) fs.toList).map .str else none
  | _=>none
end
theorem SG {P:Program} {G:Gh} {I:Al} (w:World) (f:Field) (u:TypeDesc) (i:TypeInfo) (hu:P.underlying f.type=some u) (hi:P.info? f.type=some i) {xs:List AV} {ys:List Value} (hd:Ad G I xs ys) (h1:∀u∈ys,u.oneCell'=true) :
  (u.isRow=true->∃y,(part f.type ys.toArray f.offset).run P w=.ok y w/\Ab G I (.agg ((xs.drop f.offset).take i.size)) y) /\
  (u.isRow=false->∀x,xs[f.offset]? = some x->∃y,(part f.type ys.toArray f.offset).run P w=.ok y w/\Ab G I x y):=by
 refine⟨fun hr=>?_,fun hr x hx=>?_⟩
 ·have e:(ys.toArray.extract f.offset (f.offset+i.size))=((ys.drop f.offset).take i.size).toArray:=by
   apply Array.ext'
   simp[List.extract_eq_take_drop]
  refine⟨.agg ((ys.drop f.offset).take i.size).toArray,?_,?_⟩
  ·simp[part,KN hu,hr,sizeOf,typeInfo,hi]
  ·simp only[Ab];exact⟨_,rfl,Ad.take i.size (Ad.drop _ hd),fun u hu=>h1 u (xr (xe hu))⟩
 ·obtain⟨y,hy,hyd⟩:=Ad.get f.offset hd hx;exact⟨y,by simp[part,KN hu,hr,hy],hyd⟩
theorem Rz {P:Program} {G:Gh} {I:Al} (w:World) (d:Nat) (ih:∀(t:TypeId) (e:ET) (x y:AV) (r:Bool) (u v:Value),Hm P d t=some e->Ee e x y=some r->Ab G I x u->Ab G I y v->(Op.equalIn d t u v).run P w=.ok r w) (xs ys:List AV) (us vs:List Value)
  (hx:Ad G I xs us) (hy:Ad G I ys vs) (hu:∀u∈us,u.oneCell'=true) (hv:∀u∈vs,u.oneCell'=true):∀(fs:List Field) (es:List (Nat×Option Nat×ET)) (r:Bool),Jh P (Hm P d) fs=some es->F5 es xs ys=some r->(Op.eqFields d us.toArray vs.toArray fs).run P w=.ok r w
 | [],es,r,ht,hr=>by
  simp[Jh] at ht;subst ht;simp[F5] at hr;subst hr;simp[Op.eqFields]
 | f::fs,es,r,ht,hr=>by
  unfold Jh at ht
  split at ht
  ·rename_i td i e res htd hi he hres
   split at ht
   ·cases ht
   ·rename_i hname;injection ht with ht;subst ht
    have hp1:=SG w f td i htd hi hx hu;have hp2:=SG w f td i htd hi hy hv;have key:∃p q,r=(p&&q)/\F5 res xs ys=some q/\∃a b,(part f.type us.toArray f.offset).run P w=.ok a w/\(part f.type vs.toArray f.offset).run P w=.ok b w/\(Op.equalIn d f.type a b).run P w=.ok p w:=by
     rcases hrow:td.isRow with _|_
     ·rw[hrow] at hr;simp only[Bool.false_eq_true,if_false,F5] at hr
      split at hr
      ·rename_i x y h1 h2
       split at hr
       ·rename_i p q h3 h4;obtain⟨a,a1,a2⟩:=hp1.2 hrow x h1;obtain⟨b,b1,b2⟩:=hp2.2 hrow y h2;exact⟨p,q,(zy.inj hr).symm,h4,a,b,a1,b1,ih _ _ _ _ _ _ _ he h3 a2 b2⟩
       ·cases hr
      ·cases hr
     ·rw[hrow] at hr;simp only[if_true,F5] at hr
      split at hr
      ·rename_i p q h3 h4;obtain⟨a,a1,a2⟩:=hp1.1 hrow;obtain⟨b,b1,b2⟩:=hp2.1 hrow;exact⟨p,q,(zy.inj hr).symm,h4,a,b,a1,b1,ih _ _ _ _ _ _ _ he h3 a2 b2⟩
      ·cases hr
    obtain⟨p,q,rfl,hq,a,b,a1,b1,ab⟩:=key;have hrec:=Rz w d ih xs ys us vs hx hy hu hv fs res q hres hq;unfold Op.eqFields;rw[if_pos hname]
    cases p
    ·simp[Sem.run_bind,a1,b1,ab]
    ·simp[Sem.run_bind,a1,b1,ab,hrec]
  ·cases ht
theorem tF {P:Program} {G:Gh} {I:Al} (w:World):∀(d:Nat) (t:TypeId) (e:ET) (x y:AV) (r:Bool) (u v:Value),Hm P d t=some e->Ee e x y=some r->Ab G I x u->Ab G I y v->(Op.equalIn d t u v).run P w=.ok r w:=by
 intro d
 induction d with
 | zero=>intro t e x y r u v ht;simp[Hm] at ht
 | succ d ih=>
  intro t e x y r u v ht hr hx hy;unfold Hm at ht
  split at ht
  ·rename_i hu;injection ht with ht;subst ht
   cases x<;>(try (cases y<;>simp only[Ee,reduceCtorEq] at hr;done))
   rename_i l
   cases y<;>(try (simp only[Ee,reduceCtorEq] at hr;done))
   rename_i m;simp only[Ab] at hx hy;subst hx hy;injection hr with hr;subst hr
   exact run_equalIn_bool w d t _ _ hu
  ·rename_i hu;injection ht with ht;subst ht
   cases x<;>(try (cases y<;>simp only[Ee,reduceCtorEq] at hr;done))
   rename_i l
   cases y<;>(try (simp only[Ee,reduceCtorEq] at hr;done))
   rename_i m;simp only[Ab] at hx hy;subst hx hy;injection hr with hr;subst hr
   have:=run_equalIn_string (P:=P) w d t ⟨l.toArray⟩ ⟨m.toArray⟩ hu;rw[this,ByteArray.toList_eq,ByteArray.toList_eq]
   congr 1
   by_cases hh:l=m<;>simp[hh]
  ·rename_i k hu;injection ht with ht;subst ht
   cases x<;>(try (cases y<;>simp only[Ee,reduceCtorEq] at hr;done))
   rename_i k1 x
   cases y<;>(try (simp only[Ee,reduceCtorEq] at hr;done))
   rename_i k2 y;simp only[Ab] at hx hy;subst hx hy;simp only[Ee] at hr
   split at hr
   ·rename_i hk;subst hk;injection hr with hr;subst hr
    have:=run_equalIn_int (P:=P) w d t k1 k x y hu;rw[this,Qy]
   ·cases hr
  ·rename_i fs hu
   split at ht
   ·rename_i hp
    cases hes:Jh P (Hm P d) fs.toList with
    | none=>rw[hes] at ht;cases ht
    | some es=>
     rw[hes] at ht;injection ht with ht;subst ht
     unfold Ee at hr
     split at hr<;>simp only[reduceCtorEq,ET.str.injEq] at *
     rename_i es' xs ys he;subst he;simp only[Ab] at hx hy;obtain⟨us,rfl,hx1,hx2⟩:=hx;obtain⟨vs,rfl,hy1,hy2⟩:=hy;have hf:P.fieldsOf t=fs:=by simp[Program.fieldsOf,hu]
     rw[run_equalIn_struct w d t _ _ (by rw[hf];exact hu) hp,hf];exact Rz w d ih xs ys us vs hx1 hy1 hx2 hy2 fs.toList es r hes hr
   ·cases ht
  ·cases ht
section
variable {P:Program} {C:Cx} {type:TypeId} {objs:List OB} {tm:List AV} {K:List OB->AV->Prop}
theorem QV (op:BinOp) (T T':TypeId) (x y:Operand) (et:ET) (xs ys:List AV) (r0 r:Bool) (ht:Hm P 10000 T=some et) (hg:P.eqGuardType P.depth T=false) (hx:(Ag x).ev tm=.agg xs) (hy:(Ag y).ev tm=.agg ys) (he:Ee et (.agg xs) (.agg ys)=some r0)
  (hr:(op=.eql/\r=r0)\/(op=.neq/\r=!r0)) (h:K objs (.b r)):AH P C (.binOp op T x y T') type objs tm K :=
 Bk _ h fun G I a w hm hd o ho hty=>by
  have h1:=Ar hd x;rw[hx] at h1;have h2:=Ar hd y;rw[hy] at h2;have heq:=tF (P:=P) w 10000 T et _ _ r0 _ _ ht he h1 h2;simp only[Ab] at h1 h2;obtain⟨us,e1,_⟩:=h1;obtain⟨vs,e2,_⟩:=h2;rw[e1,e2] at heq;refine⟨.bool r,?_,by simp[Ab]⟩;unfold execOp;rw[ho];have hgd:=run_eqGuard_agg (P:=P) w op T x y us.toArray vs.toArray hg;rcases hr with ⟨rfl,rfl⟩|⟨rfl,rfl⟩
  ·simp only[e1,e2,Sem.run_bind,hgd,Result.andThen_ok,run_eql_struct,heq];rfl
  ·simp only[e1,e2,Sem.run_bind,hgd,Result.andThen_ok,run_neq_struct,heq];rfl
theorem dM (t e:TypeId) (len:Nat) (parts:Array (Nat×Operand)) (ie:TypeInfo) (z:Value) (hu:P.underlying t=some (.slice e)) (hie:P.info? e=some ie) (hz:ie.zero=some z) (hsmall:¬len*ie.size > 2 ^ 24) (hpos:¬len*ie.size=0)
  (zc:List Value) (hzc:((Array.range (len*ie.size)).map (z.cells[· % z.cells.size]!)).toList=zc) (h1:(zc.all (·.oneCell'))=true)
  (ps:List (Nat×Nat×SV)) (hps:parts.toList.mapM (fun p=>((fun i=>some (i*ie.size,ie.size)) p.1:Option (Nat×Nat)).map fun q=>(q.1,q.2,Ag p.2))=some ps) (cs:List AV) (hf:EM (zc.map Fh) (ps.map fun p=>(p.1,p.2.1,p.2.2.ev tm))=some cs)
  (h:K objs (.row len cs)):AH P C (.buildSlice t len parts) type objs tm K:=by
 intro G I a w hin hmem hd o next Q ho ht hn;obtain⟨ys',r1,r2,r3⟩:=Kq hd (fun i=>some (i*ie.size,ie.size)) parts.toList ps _ cs ((Array.range (len*ie.size)).map (z.cells[· % z.cells.size]!)) hps hf (by rw[hzc];exact JM G I _) (by rw[hzc];exact fun u hu=>(zw.1 h1) u hu);obtain⟨I',s1,s2,s3,s4⟩:=QS hin hmem e cs ys' len r2 r3;refine EV (y:=.slice (some ⟨w.heap.size,0,none⟩) len len) (w':=w.alloc (.cells ys' e)) ?_ (hn _ _ _ _ _ _ h (Gh.le.refl G) s1 s2 s3 s4);unfold execOp;rw[ho];have e2:(parts.map fun (i,x)=>(i,a.eval x)).toList=parts.toList.map fun p=>(p.1,a.eval p.2):=by simp
 have hr:=run_buildSlice (P:=P) w t e len (parts.map fun (i,x)=>(i,a.eval x)) ys' ie z hu hie hz hsmall hpos (by rw[e2];exact r1);simp only[Sem.run_bind,hr,Result.andThen_ok];rfl
theorem YG (t e:TypeId) (len:Nat) (parts:Array (Nat×Operand)) (ie:TypeInfo) (z:Value) (hu:P.underlying t=some (.slice e)) (hie:P.info? e=some ie) (hz:ie.zero=some z) (hsmall:¬len*ie.size > 2 ^ 24) (hpos:¬len*ie.size=0)
  (zc:List Value) (hzc:((Array.range (len*ie.size)).map (z.cells[· % z.cells.size]!)).toList=zc) (h1:(zc.all (·.oneCell'))=true)
  (ps:List (Nat×Nat×SV)) (hps:parts.toList.mapM (fun p=>((fun i=>some (i*ie.size,ie.size)) p.1:Option (Nat×Nat)).map fun q=>(q.1,q.2,Ag p.2))=some ps) (cs:List AV) (hf:EM (zc.map Fh) (ps.map fun p=>(p.1,p.2.1,p.2.2.ev tm))=some cs)
  (h:K objs (.crow len cs)):AH P C (.buildSlice t len parts) type objs tm K:=by
 intro G I a w hin hmem hd o next Q ho ht hn;obtain⟨ys',r1,r2,r3⟩:=Kq hd (fun i=>some (i*ie.size,ie.size)) parts.toList ps _ cs ((Array.range (len*ie.size)).map (z.cells[· % z.cells.size]!)) hps hf (by rw[hzc];exact JM G I _) (by rw[hzc];exact fun u hu=>(zw.1 h1) u hu);obtain⟨I',s1,s2,s3,s4⟩:=QS hin hmem e cs ys' len r2 r3;have s5:Ab G I' (.crow len cs) (.slice (some ⟨w.heap.size,0,none⟩) len len):=by
  simp only[Ab] at s4 ⊢;obtain⟨a',c,ys,q1,q2,q3,q4,q5⟩:=s4;injection q1 with e1 e2 e3
  subst e1 e3;exact⟨_,ys,rfl,q2.2,q3,q4,q5⟩
 refine EV (y:=.slice (some ⟨w.heap.size,0,none⟩) len len) (w':=w.alloc (.cells ys' e)) ?_ (hn _ _ _ _ _ _ h (Gh.le.refl G) s1 s2 s3 s5);unfold execOp;rw[ho];have e2:(parts.map fun (i,x)=>(i,a.eval x)).toList=parts.toList.map fun p=>(p.1,a.eval p.2):=by simp
 have hr:=run_buildSlice (P:=P) w t e len (parts.map fun (i,x)=>(i,a.eval x)) ys' ie z hu hie hz hsmall hpos (by rw[e2];exact r1);simp only[Sem.run_bind,hr,Result.andThen_ok];rfl
theorem YI (t e:TypeId) (len:Nat) (parts:Array (Nat×Operand)) (ie:TypeInfo) (z:Value) (hu:P.underlying t=some (.slice e)) (hie:P.info? e=some ie) (hz:ie.zero=some z) (hsmall:¬len*ie.size > 2 ^ 24) (hpos:¬len*ie.size=0)
  (zc:List Value) (hzc:((Array.range (len*ie.size)).map (z.cells[· % z.cells.size]!)).toList=zc) (h1:(zc.all (·.oneCell'))=true)
  (ps:List (Nat×Nat×SV)) (hps:parts.toList.mapM (fun p=>((fun i=>some (i*ie.size,ie.size)) p.1:Option (Nat×Nat)).map fun q=>(q.1,q.2,Ag p.2))=some ps) (cs:List AV) (hf:EM (zc.map Fh) (ps.map fun p=>(p.1,p.2.1,p.2.2.ev tm))=some cs)
  (hcl:cs.length=len*ie.size) (h:K (objs++[.orow e ie.size 0 len cs]) (.orow objs.length 0)):AH P C (.buildSlice t len parts) type objs tm K:=by
 intro G I a w hin hmem hd o next Q ho ht hn;obtain⟨ys',r1,r2,r3⟩:=Kq hd (fun i=>some (i*ie.size,ie.size)) parts.toList ps _ cs ((Array.range (len*ie.size)).map (z.cells[· % z.cells.size]!)) hps hf (by rw[hzc];exact JM G I _) (by rw[hzc];exact fun u hu=>(zw.1 h1) u hu);have e2:(parts.map fun (i,x)=>(i,a.eval x)).toList=parts.toList.map fun p=>(p.1,a.eval p.2):=by simp
 have hr:=run_buildSlice (P:=P) w t e len (parts.map fun (i,x)=>(i,a.eval x)) ys' ie z hu hie hz hsmall hpos (by rw[e2];exact r1);have hsz:ys'.size=len*ie.size:=by
  have:=r2.length;rw[<-hcl,this];simp
 have hlen:len<=maxLen:=by
  have h1:0<ie.size:=by
   rcases jw ie.size with h|h
   ·rw[h] at hpos;simp at hpos
   ·exact h
  have h2:len*1<=len*ie.size:=Nat.mul_le_mul (ze _) h1;have h3:maxLen=2 ^ 63 - 1:=rfl;omega
 have hg:w.grownBy (w.alloc (.cells ys' e)) none:=World.grownBy_alloc w _ none;have hrow:(w.alloc (.cells ys' e)).ownsRow 0 e ie.size (.slice (some ⟨w.heap.size,0,none⟩) len len) len ys'.toList:=by
  refine⟨by simpa using hsz,.inr ⟨w.heap.size,len,ys',rfl,zd _,heap_alloc_new w _,ze _,hlen,hsz,List.take_of_length_le (by simp[hsz])⟩⟩
 obtain⟨G',s1,s2,s3,s4⟩:=Jq hin hmem hg e ie.size len cs (.slice (some ⟨w.heap.size,0,none⟩) len len) ys'.toList hrow r2 r3 (by
  intro k hk;have:w.heap.size=k:=by simpa[Value.ownBlock] using hk
  omega)
 refine EV (y:=.slice (some ⟨w.heap.size,0,none⟩) len len) (w':=w.alloc (.cells ys' e)) ?_ (hn _ _ _ _ _ _ h s1 (Al.le.refl I) s2 s3 s4);unfold execOp;rw[ho];simp only[Sem.run_bind,hr,Result.andThen_ok];rfl
theorem YH (t e:TypeId) (len:Nat) (parts:Array (Nat×Operand)) (ie:TypeInfo) (hu:P.underlying t=some (.slice e)) (hie:P.info? e=some ie) (h0:len=0) (hp:parts.toList=[])
  (h:K (objs++[.orow e ie.size 0 0 []]) (.orow objs.length 0)):AH P C (.buildSlice t len parts) type objs tm K:=by
 subst h0;intro G I a w hin hmem hd o next Q ho ht hn;have ep:parts=#[]:=by apply Array.ext';simpa using hp
 subst ep;have hr:(Instr.buildSlice t 0 #[]).run P w=.ok (.slice (some ⟨w.heap.size,0,none⟩) 0 0) (w.alloc (.cells #[] e)):=by
  simp[Instr.buildSlice,run_underlying hu,sizeOf,typeInfo,hie,newRow,Instr.fill,show Array.range 0=#[] from rfl]
 have hg:w.grownBy (w.alloc (.cells #[] e)) none:=World.grownBy_alloc w _ none;have hrow:(w.alloc (.cells #[] e)).ownsRow 0 e ie.size (.slice (some ⟨w.heap.size,0,none⟩) 0 0) 0 []:=by
  refine⟨by simp,.inr ⟨w.heap.size,0,#[],rfl,zd _,heap_alloc_new w _,ze _,zd _,by simp,by simp⟩⟩
 obtain⟨G',s1,s2,s3,s4⟩:=Jq hin hmem hg e ie.size 0 [] (.slice (some ⟨w.heap.size,0,none⟩) 0 0) [] hrow Ad.nil (by simp) (by
  intro k hk;have:w.heap.size=k:=by simpa[Value.ownBlock] using hk
  omega)
 refine EV (y:=.slice (some ⟨w.heap.size,0,none⟩) 0 0) (w':=w.alloc (.cells #[] e)) ?_ (hn _ _ _ _ _ _ h s1 (Al.le.refl I) s2 s3 s4);unfold execOp;rw[ho];simp[hr]
class Tabs (P:Program) where
 T:World->Prop
 keep:∀w w':World,T w->(∀k,k<w.heap.size->w'.heap[k]? = w.heap[k]?)->w.heap.size<=w'.heap.size->T w'
class On (P:Program) [Tabs P] (C:Cx):Prop where
 tab:Tabs.T (P:=P) C.w
 own:∀k,¬C.own k
theorem In.tab [Tabs P] [On P C] {G:Gh} {I:Al} {w:World} (h:In C G I w):Tabs.T (P:=P) w :=
 Tabs.keep _ _ (On.tab (P:=P) (C:=C)) (fun k hk=>h.block k hk (On.own P k)) h.size
def Ah (P:Program) [Tabs P] (f:FuncId) (args:List AV) (objs:List OB) (K:List OB->AV->Prop):Prop :=
 ∀(C:Cx) [On P C] (G:Gh) (I:Al) (w:World),In C G I w->MemOk G I objs w->∀ys:List Value,Ad G I args ys->Calls P f ys.toArray w (fun e w'=>∃y objs' r G' I',e=.returned y/\K objs' r/\G.le G'/\Al.le I I'/\In C G' I' w'/\MemOk G' I' objs' w'/\Ab G' I' r y)
theorem SF {G:Gh} {I:Al} {a:Act} (hd:Ad G I tm a.tmps.toList):∀l:List Operand,Ad G I (l.map fun x=>(Ag x).ev tm) (l.map a.eval)
 | []=>Ad.nil
 | x::l=>Ad.cons (Ar hd x) (SF hd l)
theorem nG {f : FuncId} {fn : Func} (hf : P.funcs[f]? = some fn) (hb : fn.body.isSome = true) (hn : fn.name ≠ "runtime.NumGoroutine") (args : Array Value) (w : World) : (callFunc f args).run P w = .ok (.enter f args) w := by
 have h2:fn.body≠none:=by intro e;rw[e] at hb;cases hb
 simp[callFunc,hf,hn,h2]
theorem Tn [Tabs P] [On P C] (f : FuncId) (args : Array Operand) (ats : Array TypeId) (x : Operand) (fs cs : List AV) (hx : (Ag x).ev tm = .fn f fs cs) (fn : Func) (hf : P.funcs[f]? = some fn) (hb : fn.body.isSome = true) (hn : fn.name ≠ "runtime.NumGoroutine")
  (h:Ah P f (fs++(args.toList.map fun x=>(Ag x).ev tm)++cs) objs K):AH P C (.call { callee:=.value x,args:=args,argTypes:=ats }) type objs tm K:=by
 intro G I a w hin hmem hd o next Q ho ht hnx;have h1:=Ar hd x;rw[hx] at h1;simp only[Ab] at h1;obtain⟨us,vs,e1,d1,d2⟩:=h1;have hd3:=Ad.append (Ad.append d1 (SF hd args.toList)) d2;have hc:=h C G I w hin hmem _ hd3;have hrun:(execOp a.eval o).run P w=.ok (.enter f (us.toArray++args.map a.eval++vs.toArray)) w:=by
  unfold execOp;rw[ho];simp only[resolve,e1,Deferred.ofValue,invoke,Sem.run_bind,Sem.run_pure,Result.andThen_ok];exact nG hf hb hn _ w
 unfold Oper.wp;rw[hrun];have e2:(us++args.toList.map a.eval++vs).toArray=us.toArray++args.map a.eval++vs.toArray:=by
  apply Array.ext';simp
 rw[e2] at hc;refine Calls.mono hc ?_;rintro e w' ⟨y,objs',r,G',I',rfl,k1,k2,k3,k4,k5,k6⟩;exact hnx objs' r y G' I' w' k1 k2 k3 k4 k5 k6
theorem UL [Tabs P] {f:FuncId} {args:List AV} (r:AV) (hk:K objs r)
  (h:∀(G:Gh) (I:Al) (w:World) (ys:List Value),Tabs.T (P:=P) w->MemOk G I objs w->Ad G I args ys->∃y,Calls P f ys.toArray w (fun e w'=>e=.returned y/\Below w.heap.size w w')/\Ab G I r y):Ah P f args objs K:=by
 intro C _ G I w hin hm ys hd;obtain⟨y,hc,hr⟩:=h G I w ys (hin.tab (P:=P)) hm hd;refine hc.mono ?_;rintro e w' ⟨rfl,hb⟩;have hg:w.grownBy w' none:=⟨hb.os,hb.tape,hb.output,hb.size,fun k hk _=>hb.block k hk⟩;exact⟨y,objs,r,G,I,rfl,hk,Gh.le.refl G,Al.le.refl I,hin.evolve hg (by simp),hm.evolve hg,hr⟩
theorem UP [Tabs P] {f:FuncId} {args:List AV} (r:AV) (hk:K objs r)
  (h:∀(G:Gh) (I:Al) (w:World) (ys:List Value),MemOk G I objs w->Ad G I args ys->∃y,Calls P f ys.toArray w (fun e w'=>e=.returned y/\Below w.heap.size w w')/\Ab G I r y):Ah P f args objs K :=
 UL r hk fun G I w ys _ hm hd=>h G I w ys hm hd
end
mutual
/-- a value without memory of the call's own -/
def AV.plain:AV->Bool
 | .agg cs=>AE cs
 | .tup cs=>AE cs
 | .row _ xs=>AE xs
 | .prow xs _=>AE xs
 | .crow _ xs=>AE xs
 | .fn _ fs cs=>AE fs&&AE cs
 | .p _ _=>false
 | .orow _ _=>false
 | .porow _ _ _=>false
 | .bsl _ _ _=>false
 | .m _=>false
 | .ip _ _ _=>false
 | _=>true
def AE:List AV->Bool
 | []=>true
 | x::xs=>x.plain&&AE xs
end
def Gh.none:Gh:=⟨fun _=>Option.none,fun _=>Option.none⟩
mutual
theorem Ab.plain {G G':Gh} {I I':Al} (hI:Al.le I I'):∀(x:AV) (y:Value),x.plain=true->Ab G I x y->Ab G' I' x y
 | .s l,y,hp,h=>by simpa[Ab] using h
 | .i k n,y,hp,h=>by simpa[Ab] using h
 | .b x,y,hp,h=>by simpa[Ab] using h
 | .agg cs,y,hp,h=>by
  simp only[Ab] at h ⊢;obtain⟨ys,h1,h2,h3⟩:=h;exact⟨ys,h1,Ad.plain hI cs ys (by simpa[AV.plain] using hp) h2,h3⟩
 | .tup cs,y,hp,h=>by
  simp only[Ab] at h ⊢;obtain⟨ys,h1,h2⟩:=h;exact⟨ys,h1,Ad.plain hI cs ys (by simpa[AV.plain] using hp) h2⟩
 | .p b off,y,hp,h=>by simp[AV.plain] at hp
 | .row n xs,y,hp,h=>by
  simp only[Ab] at h ⊢;obtain⟨a,c,ys,h1,h2,h3,h4,h5⟩:=h;refine⟨a,c,ys,h1,h2,Ad.plain hI xs ys (by simpa[AV.plain] using hp) h3,h4,fun j u hj=>?_⟩;obtain⟨g,off,e,hi⟩:=h5 j u hj;exact⟨g,off,e,hI _ _ _ hi⟩
 | .prow xs j,y,hp,h=>by
  simp only[Ab] at h ⊢;obtain⟨g,off,ys,h1,h3,h4,h5⟩:=h;exact⟨g,off,ys,h1,Ad.plain hI xs ys (by simpa[AV.plain] using hp) h3,h4,fun j u hj=>hI _ _ _ (h5 j u hj)⟩
 | .crow n xs,y,hp,h=>by
  simp only[Ab] at h ⊢;obtain⟨a,ys,h1,h2,h3,h4,h5⟩:=h;refine⟨a,ys,h1,h2,Ad.plain hI xs ys (by simpa[AV.plain] using hp) h3,h4,fun j u hj=>?_⟩;obtain⟨g,off,e,hi⟩:=h5 j u hj;exact⟨g,off,e,hI _ _ _ hi⟩
 | .orow b gen,y,hp,h=>by simp[AV.plain] at hp
 | .porow b gen j,y,hp,h=>by simp[AV.plain] at hp
 | .bsl b off n,y,hp,h=>by simp[AV.plain] at hp
 | .m b,y,hp,h=>by simp[AV.plain] at hp
 | .ip T b off,y,hp,h=>by simp[AV.plain] at hp
 | .zn b,y,hp,h=>by simpa[Ab] using h
 | .nil,y,hp,h=>by simpa[Ab] using h
 | .fn f fs cs,y,hp,h=>by
  simp only[Ab] at h ⊢;simp only[AV.plain,Bool.and_eq_true] at hp;obtain⟨us,ys,h1,h2,h3⟩:=h;exact⟨us,ys,h1,Ad.plain hI fs us hp.1 h2,Ad.plain hI cs ys hp.2 h3⟩
 | .o v,y,hp,h=>by simpa[Ab] using h
 | .u,y,hp,h=>by simp[Ab]
theorem Ad.plain {G G':Gh} {I I':Al} (hI:Al.le I I'):∀(xs:List AV) (ys:List Value),AE xs=true->Ad G I xs ys->Ad G' I' xs ys
 | [],ys,hp,h=>by simpa[Ad] using h
 | x::xs,ys,hp,h=>by
  simp only[Ad] at h ⊢;simp only[AE,Bool.and_eq_true] at hp;obtain⟨y,ys',h1,h2,h3⟩:=h;exact⟨y,ys',h1,Ab.plain hI x y hp.1 h2,Ad.plain hI xs ys' hp.2 h3⟩
end
section
variable {P:Program}
theorem TX [Tabs P] {f:FuncId} {args:List AV} {objs:List OB} {K:List OB->AV->Prop} (hp:AE args=true) (h:Ah P f args [] fun _ r=>r.plain=true/\K objs r):Ah P f args objs K:=by
 intro C hOn G I w hin hm ys hd
 let C':Cx:=⟨w,fun _=>False,I,Gh.none⟩
 haveI hOn':On P C':=⟨hin.tab (P:=P),fun _ h=>h⟩
 have hc:=h C' Gh.none I w ⟨rfl,rfl,rfl,ze _,fun _ _ _=>rfl,fun _ _ _ h=>h,fun _ _ _ h=>.inl h,fun b g hb=>by simp[Gh.own,Gh.none] at hb,Gh.le.refl _⟩
  ⟨hm.imm,by simp,by simp,by simp,fun b b' g hb=>by simp[Gh.own,Gh.none] at hb,fun b g hb=>by simp[Gh.own,Gh.none] at hb,fun b g o v hb=>by simp[Gh.own,Gh.none] at hb,fun b _=>⟨rfl,rfl⟩⟩ ys (Ad.plain (Al.le.refl I) _ _ hp hd)
 refine hc.mono ?_;rintro e w' ⟨y,objs',r,G',I',rfl,⟨hpl,hk⟩,_,hle,hin',hm',hy⟩;have hg:w.grownBy w' none:=⟨hin'.os,hin'.tape,hin'.output,hin'.size,fun k hk _=>hin'.block k hk (fun h=>h)⟩;have hnew:∀g o v,I' g o v->I g o v\/w.heap.size<=g:=by
  intro g o v hi;rcases hin'.news g o v hi with h|h|h
  ·exact .inl h
  ·exact h.elim
  ·exact .inr h
 refine⟨y,objs,r,G,I',rfl,hk,Gh.le.refl G,hle,(hin.evolve hg (by simp)).imm_more hle ?_,(hm.evolve hg).imm_more hle hm'.imm ?_,Ab.plain (Al.le.refl _) r y hpl hy⟩
 ·intro g o v hi;rcases hnew g o v hi with h|h
  ·exact .inl h
  ·exact .inr (.inr (qg hin.size h))
 ·intro b g o v hb hi;rcases hnew g o v hi with h|h
  ·exact hm.apart b g o v hb h
  ·have:=hm.lt b g hb;omega
theorem Ah.mono [Tabs P] {f:FuncId} {args:List AV} {objs:List OB} {K K':List OB->AV->Prop} (h:Ah P f args objs K) (hk:∀o r,K o r->K' o r):Ah P f args objs K':=by
 intro C hOn G I w hin hm ys hd;refine(h C G I w hin hm ys hd).mono ?_;rintro e w' ⟨y,objs',r,G',I',h1,h2,h3⟩;exact⟨y,objs',r,G',I',h1,hk _ _ h2,h3⟩
end
inductive PQ where
 | bits (op:BinOp)
 | shl
 | shr
 | mn
 | mx
 | rsl (sz:Nat)
 | rslh (sz:Nat)
 | rslb (sz:Nat)
 | asl (sz len:Nat)
 | aslh (sz len:Nat)
 | aslb (sz len:Nat)
 | snil (ne:Bool)
 | scmp (op:BinOp)
 | sl3
 | mki (T:Nat)
 | tas (T:Nat)
 | lit (n:Nat) (z:List AV) (pl:List (Nat×Nat))
def Jn (op:BinOp) (k:IntKind) (a b:Int):Option Int :=
 match op with
 | .and=>some (k.wrap (BitVec.ofInt k.bits a &&& BitVec.ofInt k.bits b).toNat)
 | .or=>some (k.wrap (BitVec.ofInt k.bits a ||| BitVec.ofInt k.bits b).toNat)
 | .xor=>some (k.wrap (BitVec.ofInt k.bits a ^^^ BitVec.ofInt k.bits b).toNat)
 | _=>none
def Ha (l m:List UInt8):Bool:=Op.bytesLess l m
def Nr (op:BinOp) (l m:List UInt8):Option Bool :=
 match op with
 | .lss=>some (Ha l m)
 | .leq=>some (Ha l m||l==m)
 | .gtr=>some (!Ha l m&&!(l==m))
 | .geq=>some (!Ha l m)
 | _=>none
def Hv:List (Nat×Nat)->List AV->List (Nat×Nat×AV)
 | (o,s)::pl,x::xs=>(o,s,x)::Hv pl xs
 | _,_=>[]
def pq:PQ->List AV->Option AV
 | .bits op,[.i k a,.i k' b]=>if k=k' then (Jn op k a b).map (.i k) else none
 | .shl,[.i k a,.i _ b]=>if 0<=b then some (.i k (k.wrap (a*2 ^ (min b.toNat k.bits)))) else none
 | .shr,[.i k a,.i _ b]=>if 0<=b then some (.i k (a.fdiv (2 ^ (min b.toNat k.bits)))) else none
 | .mn,[.i k a,.i k' b]=>if k=k' then some (.i k (if b<a then b else a)) else none
 | .mx,[.i k a,.i k' b]=>if k=k' then some (.i k (if a<b then b else a)) else none
 | .rsl sz,[.row n xs,.i _ lo]=>if 0<=lo/\lo<=n then some (.row (n - lo.toNat) ((xs.take (n*sz)).drop (lo.toNat*sz))) else none
 | .rsl _,[.nil,.i _ lo]=>if lo=0 then some .nil else none
 | .rslh sz,[.row n xs,.i _ hi]=>if 0<=hi/\hi<=n then some (.row hi.toNat (xs.take (hi.toNat*sz))) else none
 | .rslh _,[.nil,.i _ hi]=>if hi=0 then some .nil else none
 | .rslb sz,[.row n xs,.i _ lo,.i _ hi]=>if 0<=lo/\lo<=hi/\hi<=n then some (.row (hi.toNat - lo.toNat) ((xs.take (hi.toNat*sz)).drop (lo.toNat*sz))) else none
 | .asl sz len,[.p b off,.i _ lo]=>if 0<=lo/\lo<len then some (.bsl b (off+lo.toNat*sz) (len - lo.toNat)) else none
 | .aslh sz len,[.p b off,.i _ hi]=>if 0<=hi/\hi<=len/\0<len then some (.bsl b off hi.toNat) else none
 | .aslb sz len,[.p b off,.i _ lo,.i _ hi]=>if 0<=lo/\lo<=hi/\hi<=len/\lo<len then some (.bsl b (off+lo.toNat*sz) (hi.toNat - lo.toNat)) else none
 | .snil ne,[x,.nil]=>match x with
  | .nil=>some (.b (!ne))
  | .zn b=>some (.b (if ne then !b else b))
  | .row _ (_::_)=>some (.b ne)
  | _=>none
 | .scmp op,[.s l,.s m]=>(Nr op l m).map .b
 | .sl3,[.row n xs,.i _ a,.i _ b]=>if a=n/\b=n then some (.crow n xs) else none
 | .sl3,[.nil,.i _ a,.i _ b]=>if a=0/\b=0 then some (.crow 0 []) else none
 | .mki T,[.p b off]=>some (.ip T b off)
 | .mki T,[.i k n]=>some (.o (.iface T (.int k n)))
 | .tas T,[.o (.iface T' (.int k n))]=>if T'=T then some (.tup [.i k n,.b true]) else none
 | .lit n z pl,xs=>(EM z (Hv pl xs)).map (.crow n)
 | _,_=>none
def QB (P:Program):Op->Option (PQ×List SV)
 | .binOp op T x y _=>match P.underlying T with
  | some (.int _)=>match op with
   | .and=>some (.bits .and,[Ag x,Ag y])
   | .or=>some (.bits .or,[Ag x,Ag y])
   | .xor=>some (.bits .xor,[Ag x,Ag y])
   | .shl=>some (.shl,[Ag x,Ag y])
   | .shr=>some (.shr,[Ag x,Ag y])
   | _=>none
  | some .string=>match op with
   | .lss=>some (.scmp .lss,[Ag x,Ag y])
   | .leq=>some (.scmp .leq,[Ag x,Ag y])
   | .gtr=>some (.scmp .gtr,[Ag x,Ag y])
   | .geq=>some (.scmp .geq,[Ag x,Ag y])
   | _=>none
  | some (.slice _)=>match op with
   | .eql=>some (.snil false,[Ag x,Ag y])
   | .neq=>some (.snil true,[Ag x,Ag y])
   | _=>none
  | _=>none
 | .call c=>match c.callee with
  | .builtin .min=>match c.args.toList with
   | [x,y]=>some (.mn,[Ag x,Ag y])
   | _=>none
  | .builtin .max=>match c.args.toList with
   | [x,y]=>some (.mx,[Ag x,Ag y])
   | _=>none
  | _=>none
 | .slice T x (some lo) none none=>match P.underlying T with
  | some (.slice e)=>match P.info? e with
   | some i=>some (.rsl i.size,[Ag x,Ag lo])
   | none=>none
  | some (.array len e)=>match P.info? e with
   | some i=>some (.asl i.size len,[Ag x,Ag lo])
   | none=>none
  | _=>none
 | .slice T x (some lo) (some hi) none=>match P.underlying T with
  | some (.slice e)=>match P.info? e with
   | some i=>some (.rslb i.size,[Ag x,Ag lo,Ag hi])
   | none=>none
  | some (.array len e)=>match P.info? e with
   | some i=>some (.aslb i.size len,[Ag x,Ag lo,Ag hi])
   | none=>none
  | _=>none
 | .slice T x none (some hi) none=>match P.underlying T with
  | some (.array len e)=>match P.info? e with
   | some i=>some (.aslh i.size len,[Ag x,Ag hi])
   | none=>none
  | _=>none
 | .slice T x none (some hi) (some mx)=>match P.underlying T with
  | some (.slice e)=>match P.info? e with
   | some i=>some (.sl3,[Ag x,Ag hi,Ag mx])
   | none=>none
  | _=>none
 | .makeInterface T x=>match P.underlying T with
  | some (.pointer _)=>some (.mki T,[Ag x])
  | some (.int _)=>some (.mki T,[Ag x])
  | _=>none
 | .typeAssert x _ T true=>match P.underlying T with
  | some (.int _)=>some (.tas T,[Ag x])
  | _=>none
 | _=>none
section
variable {P:Program} {C:Cx} {type:TypeId} {objs:List OB} {tm:List AV} {K:List OB->AV->Prop}
theorem YF (op:BinOp) (T T':TypeId) (x y:Operand) (k:IntKind) (a b r:Int) (hx:(Ag x).ev tm=.i k a) (hy:(Ag y).ev tm=.i k b) (hr:Jn op k a b=some r) (h:K objs (.i k r)):AH P C (.binOp op T x y T') type objs tm K :=
 Bk _ h fun G I act w hm hd o ho ht=>by
  have h1:=Ar hd x;rw[hx] at h1;simp only[Ab] at h1;have h2:=Ar hd y;rw[hy] at h2;simp only[Ab] at h2;refine⟨.int k r,?_,by simp[Ab]⟩;unfold execOp;rw[ho]
  cases op<;>simp only[Jn,zy.injEq,reduceCtorEq] at hr<;>subst hr<;>simp[h1,h2,eqGuard,binOp,Op.intBits]
theorem sS (T T':TypeId) (x y:Operand) (k k':IntKind) (a b:Int) (hx:(Ag x).ev tm=.i k a) (hy:(Ag y).ev tm=.i k' b) (hb:0<=b) (h:K objs (.i k (k.wrap (a*2 ^ (min b.toNat k.bits))))):AH P C (.binOp .shl T x y T') type objs tm K :=
 Bk _ h fun G I act w hm hd o ho ht=>by
  have h1:=Ar hd x;rw[hx] at h1;simp only[Ab] at h1;have h2:=Ar hd y;rw[hy] at h2;simp only[Ab] at h2;refine⟨_,?_,by simp only[Ab];rfl⟩;unfold execOp;rw[ho];simp[h1,h2,eqGuard,binOp,Op.shift,show ¬b<0 by omega]
theorem sT (T T':TypeId) (x y:Operand) (k k':IntKind) (a b:Int) (hx:(Ag x).ev tm=.i k a) (hy:(Ag y).ev tm=.i k' b) (hb:0<=b) (h:K objs (.i k (a.fdiv (2 ^ (min b.toNat k.bits))))):AH P C (.binOp .shr T x y T') type objs tm K :=
 Bk _ h fun G I act w hm hd o ho ht=>by
  have h1:=Ar hd x;rw[hx] at h1;simp only[Ab] at h1;have h2:=Ar hd y;rw[hy] at h2;simp only[Ab] at h2;refine⟨_,?_,by simp only[Ab];rfl⟩;unfold execOp;rw[ho];simp[h1,h2,eqGuard,binOp,Op.shift,show ¬b<0 by omega]
theorem rV (ty:TypeId) (x y:Operand) (ats:Array TypeId) (k:IntKind) (a b:Int) (hx:(Ag x).ev tm=.i k a) (hy:(Ag y).ev tm=.i k b) (h:K objs (.i k (if b<a then b else a))):AH P C (.call { callee:=.builtin .min,args:=#[x,y],argTypes:=ats }) ty objs tm K :=
 Bk _ h fun G I act w hm hd o ho ht=>by
  have h1:=Ar hd x;rw[hx] at h1;simp only[Ab] at h1;have h2:=Ar hd y;rw[hy] at h2;simp only[Ab] at h2;refine⟨_,?_,by simp only[Ab];rfl⟩;unfold execOp;rw[ho];simp[resolve,invoke,builtin,Builtin.min_,Builtin.min2,h1,h2]
theorem rW (ty:TypeId) (x y:Operand) (ats:Array TypeId) (k:IntKind) (a b:Int) (hx:(Ag x).ev tm=.i k a) (hy:(Ag y).ev tm=.i k b) (h:K objs (.i k (if a<b then b else a))):AH P C (.call { callee:=.builtin .max,args:=#[x,y],argTypes:=ats }) ty objs tm K :=
 Bk _ h fun G I act w hm hd o ho ht=>by
  have h1:=Ar hd x;rw[hx] at h1;simp only[Ab] at h1;have h2:=Ar hd y;rw[hy] at h2;simp only[Ab] at h2;refine⟨_,?_,by simp only[Ab];rfl⟩;unfold execOp;rw[ho];simp[resolve,invoke,builtin,Builtin.max_,Builtin.max2,h1,h2]
theorem YU (op:BinOp) (T T':TypeId) (x y:Operand) (l m:List UInt8) (r:Bool) (hx:(Ag x).ev tm=.s l) (hy:(Ag y).ev tm=.s m) (hr:Nr op l m=some r) (h:K objs (.b r)):AH P C (.binOp op T x y T') type objs tm K :=
 Bk _ h fun G I act w hm hd o ho ht=>by
  have h1:=Ar hd x;rw[hx] at h1;simp only[Ab] at h1;have h2:=Ar hd y;rw[hy] at h2;simp only[Ab] at h2;refine⟨.bool r,?_,by simp[Ab]⟩;unfold execOp;rw[ho];have e1:(⟨l.toArray⟩:ByteArray).toList=l:=by rw[ByteArray.toList_eq]
  have e2:(⟨m.toArray⟩:ByteArray).toList=m:=by rw[ByteArray.toList_eq]
  cases op<;>simp only[Nr,zy.injEq,reduceCtorEq] at hr<;>subst hr<;>simp[h1,h2,eqGuard,binOp,Op.stringOp,e1,e2,Ha]
theorem OT {G:Gh} {I:Al} {P:Program} {w:World} {T e:TypeId} {i:TypeInfo} (hu:P.underlying T=some (.slice e)) (hi:P.info? e=some i) {n:Nat} {xs:List AV} {y:Value} (h:Ab G I (.row n xs) y) (lo hi':Option Value) (l hh:Nat) (hl:l<=hh) (hn:hh<=n)
  (hb:∀c,n<=c->(Instr.sliceBounds true n c lo hi' none).run P w=.ok (l,hh,c) w):∃v,(Instr.sliceAt T y lo hi' none).run P w=.ok v w/\Ab G I (.row (hh - l) ((xs.take (hh*i.size)).drop (l*i.size))) v:=by
 simp only[Ab] at h;obtain⟨a,c,ys,rfl,h2,h3,h4,h5⟩:=h;refine⟨.slice (if c=l then a else a.map (·.add (l*i.size))) (hh - l) (c - l),?_,?_⟩
 ·have:=hb c h2.1;simp[Instr.sliceAt,Instr.slice,run_underlying hu,this,sizeOf,typeInfo,hi]
 ·simp only[Ab];refine⟨_,_,(ys.take (hh*i.size)).drop (l*i.size),rfl,⟨by omega,?_⟩,Ad.drop _ (Ad.take _ h3),fun u hu=>h4 u (xe (xr hu)),?_⟩
  ·intro ad had hc0
   split at had
   ·rename_i hcl;omega
   ·cases a with
    | none=>simp at had
    | some a0=>
     simp at had;have:=h2.2 a0 rfl (by omega);obtain⟨g,off,sp⟩:=a0;simp at this;subst this;rw[CG] at had;rw[<-had]
  ·intro j u hj;rw[jx,xw] at hj
   split at hj
   ·rename_i hlt;obtain⟨g,off,e1,e2⟩:=h5 _ _ hj;refine⟨g,off+l*i.size,?_,by rw[Nat.add_assoc];exact e2⟩;have hne:¬c=l:=by
     rintro rfl;have:hh=c:=by omega
     subst this;omega
    rw[if_neg hne,e1,jt,CG]
   ·cases hj
theorem sQ (T:TypeId) (x lo:Operand) (e:TypeId) (i:TypeInfo) (hu:P.underlying T=some (.slice e)) (hi:P.info? e=some i) (n:Nat) (xs:List AV) (k:IntKind) (l:Int) (hx:(Ag x).ev tm=.row n xs) (hlo:(Ag lo).ev tm=.i k l) (h0:0<=l) (h1:l<=n)
  (h:K objs (.row (n - l.toNat) ((xs.take (n*i.size)).drop (l.toNat*i.size)))):AH P C (.slice T x (some lo) none none) type objs tm K :=
 Bk _ h fun G I act w hm hd o ho ht=>by
  have e1:=Ar hd x;rw[hx] at e1;have e2:=Ar hd lo;rw[hlo] at e2;simp only[Ab] at e2;obtain⟨v,k1,k2⟩:=OT (P:=P) (w:=w) hu hi e1 (some (.int k l)) none l.toNat n (by omega) (ze _) (fun c hc=>by
   simp[Instr.sliceBounds,run_sliceBound w k l n _ h0 h1])
  refine⟨v,?_,k2⟩;unfold execOp;rw[ho];simp[e2,k1]
theorem YS (T:TypeId) (x lo:Operand) (e:TypeId) (i:TypeInfo) (hu:P.underlying T=some (.slice e)) (hi:P.info? e=some i) (n:Nat) (xs:List AV) (k:IntKind) (l:Int) (hx:(Ag x).ev tm=.row n xs) (hlo:(Ag lo).ev tm=.i k l) (h0:0<=l) (h1:l<=n)
  (h:K objs (.row l.toNat (xs.take (l.toNat*i.size)))):AH P C (.slice T x none (some lo) none) type objs tm K :=
 Bk _ h fun G I act w hm hd o ho ht=>by
  have e1:=Ar hd x;rw[hx] at e1;have e2:=Ar hd lo;rw[hlo] at e2;simp only[Ab] at e2;obtain⟨v,k1,k2⟩:=OT (P:=P) (w:=w) hu hi e1 none (some (.int k l)) 0 l.toNat (by omega) (by omega) (fun c hc=>by
   simp[Instr.sliceBounds,run_sliceBound w k l c _ h0 (by omega)])
  refine⟨v,?_,by simpa using k2⟩;unfold execOp;rw[ho];simp[e2,k1]
theorem YR (T:TypeId) (x lo hi':Operand) (e:TypeId) (i:TypeInfo) (hu:P.underlying T=some (.slice e)) (hi:P.info? e=some i) (n:Nat) (xs:List AV) (k k':IntKind) (l m:Int) (hx:(Ag x).ev tm=.row n xs) (hlo:(Ag lo).ev tm=.i k l) (hhi:(Ag hi').ev tm=.i k' m) (h0:0<=l) (h1:l<=m) (h2:m<=n)
  (h:K objs (.row (m.toNat - l.toNat) ((xs.take (m.toNat*i.size)).drop (l.toNat*i.size)))):AH P C (.slice T x (some lo) (some hi') none) type objs tm K :=
 Bk _ h fun G I act w hm hd o ho ht=>by
  have e1:=Ar hd x;rw[hx] at e1;have e2:=Ar hd lo;rw[hlo] at e2;simp only[Ab] at e2;have e3:=Ar hd hi';rw[hhi] at e3;simp only[Ab] at e3;obtain⟨v,k1,k2⟩:=OT (P:=P) (w:=w) hu hi e1 (some (.int k l)) (some (.int k' m)) l.toNat m.toNat (by omega) (by omega) (fun c hc=>by
   have q1:=run_sliceBound (P:=P) w k' m c .sliceAcap (by omega) (by omega);have q2:=run_sliceBound (P:=P) w k l m.toNat .sliceB h0 (by omega);simp[Instr.sliceBounds,q1,q2])
  refine⟨v,?_,k2⟩;unfold execOp;rw[ho];simp[e2,e3,k1]
theorem sR (T:TypeId) (x lo:Operand) (e:TypeId) (i:TypeInfo) (hu:P.underlying T=some (.slice e)) (hi:P.info? e=some i) (k:IntKind) (hx:(Ag x).ev tm=.nil) (hlo:(Ag lo).ev tm=.i k 0) (h:K objs .nil):AH P C (.slice T x (some lo) none none) type objs tm K :=
 Bk _ h fun G I act w hm hd o ho ht=>by
  have e1:=Ar hd x;rw[hx] at e1;simp only[Ab] at e1;have e2:=Ar hd lo;rw[hlo] at e2;simp only[Ab] at e2;refine⟨.slice none 0 0,?_,by simp[Ab]⟩;unfold execOp;rw[ho];have q1:=run_sliceBound (P:=P) w k 0 0 .sliceB (by omega) (by omega);simp[e1,e2,Instr.sliceAt,Instr.slice,run_underlying hu,Instr.sliceBounds,q1,sizeOf,typeInfo,hi]
theorem YT (T:TypeId) (x lo:Operand) (e:TypeId) (i:TypeInfo) (hu:P.underlying T=some (.slice e)) (hi:P.info? e=some i) (k:IntKind) (hx:(Ag x).ev tm=.nil) (hlo:(Ag lo).ev tm=.i k 0) (h:K objs .nil):AH P C (.slice T x none (some lo) none) type objs tm K :=
 Bk _ h fun G I act w hm hd o ho ht=>by
  have e1:=Ar hd x;rw[hx] at e1;simp only[Ab] at e1;have e2:=Ar hd lo;rw[hlo] at e2;simp only[Ab] at e2;refine⟨.slice none 0 0,?_,by simp[Ab]⟩;unfold execOp;rw[ho];have q1:=run_sliceBound (P:=P) w k 0 0 .sliceAcap (by omega) (by omega);simp[e1,e2,Instr.sliceAt,Instr.slice,run_underlying hu,Instr.sliceBounds,q1,sizeOf,typeInfo,hi]
theorem sE (T:TypeId) (x lo:Operand) (e:TypeId) (i:TypeInfo) (len:Nat) (hu:P.underlying T=some (.array len e)) (hi:P.info? e=some i) (b off:Nat) (k:IntKind) (l:Int) (hx:(Ag x).ev tm=.p b off) (hlo:(Ag lo).ev tm=.i k l) (h0:0<=l) (h1:l<len)
  (h:K objs (.bsl b (off+l.toNat*i.size) (len - l.toNat))):AH P C (.slice T x (some lo) none none) type objs tm K :=
 Bk _ h fun G I act w hm hd o ho ht=>by
  have e1:=Ar hd x;rw[hx] at e1;simp only[Ab] at e1;have e2:=Ar hd lo;rw[hlo] at e2;simp only[Ab] at e2;obtain⟨g,k1,k2⟩:=e1;refine⟨.slice (some ⟨g,off+l.toNat*i.size,none⟩) (len - l.toNat) (len - l.toNat),?_,by simp only[Ab];exact⟨g,_,k1,rfl,ze _⟩⟩;unfold execOp;rw[ho];have q1:=run_sliceBound (P:=P) w k l len .sliceB h0 (by omega);simp[e2,k2,Instr.sliceAt,Instr.sureAddr,run_underlying hu,Instr.sliceBounds,q1,sizeOf,typeInfo,hi,show ¬len=l.toNat by omega,CG]
theorem Zc (T:TypeId) (x hi':Operand) (e:TypeId) (i:TypeInfo) (len:Nat) (hu:P.underlying T=some (.array len e)) (hi:P.info? e=some i) (b off:Nat) (k:IntKind) (l:Int) (hx:(Ag x).ev tm=.p b off) (hlo:(Ag hi').ev tm=.i k l) (h0:0<=l) (h1:l<=len) (h2:0<len)
  (h:K objs (.bsl b off l.toNat)):AH P C (.slice T x none (some hi') none) type objs tm K :=
 Bk _ h fun G I act w hm hd o ho ht=>by
  have e1:=Ar hd x;rw[hx] at e1;simp only[Ab] at e1;have e2:=Ar hd hi';rw[hlo] at e2;simp only[Ab] at e2;obtain⟨g,k1,k2⟩:=e1;refine⟨.slice (some ⟨g,off,none⟩) l.toNat len,?_,by simp only[Ab];exact⟨g,_,k1,rfl,by omega⟩⟩;unfold execOp;rw[ho];have q1:=run_sliceBound (P:=P) w k l len .sliceAlen h0 (by omega);simp[e2,k2,Instr.sliceAt,Instr.sureAddr,run_underlying hu,Instr.sliceBounds,q1,sizeOf,typeInfo,hi,show ¬len=0 by omega,CG]
theorem Zb (T:TypeId) (x lo hi':Operand) (e:TypeId) (i:TypeInfo) (len:Nat) (hu:P.underlying T=some (.array len e)) (hi:P.info? e=some i) (b off:Nat) (k k':IntKind) (l m:Int) (hx:(Ag x).ev tm=.p b off) (hlo:(Ag lo).ev tm=.i k l) (hhi:(Ag hi').ev tm=.i k' m) (h0:0<=l) (h1:l<=m) (h2:m<=len) (h3:l<len)
  (h:K objs (.bsl b (off+l.toNat*i.size) (m.toNat - l.toNat))):AH P C (.slice T x (some lo) (some hi') none) type objs tm K :=
 Bk _ h fun G I act w hm hd o ho ht=>by
  have e1:=Ar hd x;rw[hx] at e1;simp only[Ab] at e1;have e2:=Ar hd lo;rw[hlo] at e2;simp only[Ab] at e2;have e3:=Ar hd hi';rw[hhi] at e3;simp only[Ab] at e3;obtain⟨g,k1,k2⟩:=e1;refine⟨.slice (some ⟨g,off+l.toNat*i.size,none⟩) (m.toNat - l.toNat) (len - l.toNat),?_,by simp only[Ab];exact⟨g,_,k1,rfl,by omega⟩⟩;unfold execOp;rw[ho];have q1:=run_sliceBound (P:=P) w k' m len .sliceAlen (by omega) (by omega);have q2:=run_sliceBound (P:=P) w k l m.toNat .sliceB h0 (by omega);simp[e2,e3,k2,Instr.sliceAt,Instr.sureAddr,run_underlying hu,Instr.sliceBounds,q1,q2,sizeOf,typeInfo,hi,show ¬len=l.toNat by omega,CG]
theorem NQ (op:BinOp) (ne:Bool) (hop:op=(if ne then .neq else .eql)) (T T' e:TypeId) (x y:Operand) (hu:P.underlying T=some (.slice e)) (r:Bool) (hy:(Ag y).ev tm=.nil)
  (hx:((Ag x).ev tm=.nil/\r=!ne)\/(∃b,(Ag x).ev tm=.zn b/\r=(if ne then !b else b))\/(∃n z zs,(Ag x).ev tm=.row n (z::zs)/\r=ne)) (h:K objs (.b r)):AH P C (.binOp op T x y T') type objs tm K :=
 Bk _ h fun G I act w hm hd o ho ht=>by
  have e1:=Ar hd x;have e2:=Ar hd y;rw[hy] at e2;simp only[Ab] at e2;have key:∃a n c,act.eval x=.slice a n c/\r=(if ne then !a.isNone else a.isNone):=by
   rcases hx with ⟨hx,rfl⟩|⟨b,hx,rfl⟩|⟨n,z,zs,hx,rfl⟩
   ·rw[hx] at e1;simp only[Ab] at e1;exact⟨none,0,0,e1,by cases ne<;>rfl⟩
   ·rw[hx] at e1;simp only[Ab] at e1;obtain⟨a,c,e1,e3,_⟩:=e1;exact⟨a,0,c,e1,by rw[e3]⟩
   ·rw[hx] at e1;simp only[Ab] at e1;obtain⟨a,c,ys,e1,_,k3,_,k5⟩:=e1
    cases ys with
    | nil=>have:=k3.length;simp at this
    | cons y' ys=>
     obtain⟨g,off,e,_⟩:=k5 0 y' rfl;subst e;exact⟨_,n,c,e1,by cases r<;>rfl⟩
  obtain⟨a,n,c,hv,rfl⟩:=key;refine⟨.bool (if ne then !a.isNone else a.isNone),?_,by simp[Ab]⟩;unfold execOp;rw[ho];have hq:(Op.equal T (.slice a n c) (.slice none 0 0)).run P w=.ok a.isNone w:=by
   unfold Op.equal;have hmd:∃d,Op.maxDepth=d+1:=⟨_,rfl⟩;obtain⟨d,hmd⟩:=hmd;rw[hmd,Op.equalIn]
   cases a<;>simp[run_underlying hu]
  cases ne<;>subst hop<;>simp[hv,e2,eqGuard,binOp,hq]
theorem LE (T T':TypeId) (d:TypeDesc) (hu:P.underlying T=some d) (hd':∀ms,d≠.interface ms) (x:Operand) (v:AV) (hx:(∃b off,(Ag x).ev tm=.p b off/\v=.ip T b off)\/(∃k n,(Ag x).ev tm=.i k n/\v=.o (.iface T (.int k n)))) (h:K objs v):AH P C (.makeInterface T x) T' objs tm K :=
 Bk _ h fun G I act w hm hd o ho ht=>by
  have e1:=Ar hd x;have hr:∀y,(Instr.makeInterface T y).run P w=.ok (.iface T y) w:=by
   intro y;unfold Instr.makeInterface;rw[Sem.run_bind,run_underlying hu w]
   cases d<;>simp_all
  rcases hx with ⟨b,off,hx,rfl⟩|⟨k,n,hx,rfl⟩
  ·rw[hx] at e1;simp only[Ab] at e1;obtain⟨g,k1,k2⟩:=e1;refine⟨_,?_,by simp only[Ab];exact⟨g,k1,rfl⟩⟩;unfold execOp;rw[ho];simp[k2,hr]
  ·rw[hx] at e1;simp only[Ab] at e1;refine⟨.iface T (.int k n),?_,by simp only[Ab]⟩;unfold execOp;rw[ho];simp[e1,hr]
theorem sU (T xT T':TypeId) (kk:IntKind) (hu:P.underlying T=some (.int kk)) (x:Operand) (k:IntKind) (n:Int) (hx:(Ag x).ev tm=.o (.iface T (.int k n))) (h:K objs (.tup [.i k n,.b true])):AH P C (.typeAssert x xT T true) T' objs tm K :=
 Bk _ h fun G I act w hm hd o ho ht=>by
  have e1:=Ar hd x;rw[hx] at e1;simp only[Ab] at e1;refine⟨.tuple #[.int k n,.bool true],?_,by simp only[Ab];exact⟨[.int k n,.bool true],rfl,Ad.cons (by simp[Ab]) (Ad.cons (by simp[Ab]) Ad.nil)⟩⟩;unfold execOp;rw[ho];simp[e1,Instr.typeAssert,run_underlying hu]
theorem QX (T:TypeId) (x h' m':Operand) (e:TypeId) (i:TypeInfo) (hu:P.underlying T=some (.slice e)) (hi:P.info? e=some i) (n:Nat) (xs:List AV) (k k':IntKind) (hx:(Ag x).ev tm=.row n xs\/((Ag x).ev tm=.nil/\n=0/\xs=[])) (hh:(Ag h').ev tm=.i k n) (hm':(Ag m').ev tm=.i k' n)
  (h:K objs (.crow n xs)):AH P C (.slice T x none (some h') (some m')) type objs tm K :=
 Bk _ h fun G I act w hm hd o ho ht=>by
  have e1:=Ar hd x;have e2:=Ar hd h';rw[hh] at e2;simp only[Ab] at e2;have e3:=Ar hd m';rw[hm'] at e3;simp only[Ab] at e3;obtain⟨a,c,ys,f1,f2,f3,f4,f5⟩:∃a c ys,act.eval x=.slice a n c/\(n<=c/\∀ad:Addr,a=some ad->c≠0->ad.spot=none)/\Ad G I xs ys/\(∀u∈ys,u.oneCell'=true)/\∀(j:Nat) u,ys[j]? = some u->∃g off,a=some ⟨g,off,none⟩/\I g (off+j) u:=by
   rcases hx with hx|⟨hx,rfl,rfl⟩
   ·rw[hx] at e1;simp only[Ab] at e1;exact e1
   ·rw[hx] at e1;simp only[Ab] at e1;exact⟨none,0,[],e1,⟨ze _,by simp⟩,Ad.nil,by simp,by simp⟩
  have q1:=run_sliceBound (P:=P) w k' n c .slice3Acap (by omega) (by omega);have q2:=run_sliceBound (P:=P) w k n n .slice3B (by omega) (by omega);have ha:(if n=0 then a else a.map (·.add (0*i.size)))=a:=by
   by_cases h0:n=0
   ·rw[if_pos h0]
   ·rw[if_neg h0]
    cases a with
    | none=>rfl
    | some ad=>
     have:=f2.2 ad rfl (by omega);obtain⟨g,off,sp⟩:=ad;dsimp only at this;subst this;rw[jt,CG,Nat.zero_mul,jj]
  simp only[Int.toNat_natCast] at q1 q2;refine⟨.slice a n n,?_,?_⟩
  ·unfold execOp;rw[ho];have hb:(Instr.sliceBounds true n c none (some (.int k n)) (some (.int k' n))).run P w=.ok (0,n,n) w:=by
    simp[Instr.sliceBounds,q1,q2]
   simp only[f1,e2,e3,jt,Option.map_none];simp[Instr.sliceAt,Instr.slice,run_underlying hu,hb,sizeOf,typeInfo,hi];simpa using ha
  ·simp only[Ab];exact⟨a,ys,rfl,fun ad h1 h2=>f2.2 ad h1 (by omega),f3,f4,f5⟩
theorem rA (o:Op) (q:PQ) (xs:List SV) (v:AV) (ht:QB P o=some (q,xs)) (hv:pq q (xs.map fun x=>x.ev tm)=some v) (h:K objs v):AH P C o type objs tm K:=by
 unfold QB at ht
 split at ht
 ·rename_i op T x y T'
  split at ht
  ·have int:∀op',(some (PQ.bits op',[Ag x,Ag y]):Option (PQ×List SV))=some (q,xs)->AH P C (.binOp op' T x y T') type objs tm K:=by
    intro op' e;injection e with e;injection e with e1 e2;subst e1 e2
    simp only[zl,qa] at hv;unfold pq at hv
    split at hv<;>simp only[reduceCtorEq,PQ.bits.injEq,jc.injEq,and_true] at *
    rename_i op2 k a k' b e1 e2;subst e1;obtain⟨hx,hy⟩:=e2
    split at hv
    ·rename_i hk;subst hk;simp only[xt] at hv;obtain⟨r,hr,rfl⟩:=hv;exact YF _ T T' x y k a b r hx hy hr h
    ·cases hv
   split at ht
   ·exact int _ ht
   ·exact int _ ht
   ·exact int _ ht
   ·injection ht with e;injection e with e1 e2;subst e1 e2
    simp only[zl,qa] at hv;unfold pq at hv
    split at hv<;>simp only[reduceCtorEq,jc.injEq,and_true] at *
    rename_i k a k' b _ e2;obtain⟨hx,hy⟩:=e2
    split at hv
    ·rename_i hb;injection hv with hv;subst hv
     exact sS T T' x y k k' a b hx hy hb h
    ·cases hv
   ·injection ht with e;injection e with e1 e2;subst e1 e2
    simp only[zl,qa] at hv;unfold pq at hv
    split at hv<;>simp only[reduceCtorEq,jc.injEq,and_true] at *
    rename_i k a k' b _ e2;obtain⟨hx,hy⟩:=e2
    split at hv
    ·rename_i hb;injection hv with hv;subst hv
     exact sT T T' x y k k' a b hx hy hb h
    ·cases hv
   ·cases ht
  ·have str:∀op',(some (PQ.scmp op',[Ag x,Ag y]):Option (PQ×List SV))=some (q,xs)->AH P C (.binOp op' T x y T') type objs tm K:=by
    intro op' e;injection e with e;injection e with e1 e2;subst e1 e2
    simp only[zl,qa] at hv;unfold pq at hv
    split at hv<;>simp only[reduceCtorEq,PQ.scmp.injEq,jc.injEq,and_true] at *
    rename_i op2 l m e1 e2;subst e1;obtain⟨hx,hy⟩:=e2;simp only[xt] at hv;obtain⟨r,hr,rfl⟩:=hv;exact YU _ T T' x y l m r hx hy hr h
   split at ht
   ·exact str _ ht
   ·exact str _ ht
   ·exact str _ ht
   ·exact str _ ht
   ·cases ht
  ·rename_i e hu;have nl:∀(op':BinOp) (ne:Bool),op'=(if ne then .neq else .eql)->(some (PQ.snil ne,[Ag x,Ag y]):Option (PQ×List SV))=some (q,xs)->AH P C (.binOp op' T x y T') type objs tm K:=by
    intro op' ne hop e';injection e' with e';injection e' with e1 e2;subst e1 e2
    simp only[zl,qa] at hv;unfold pq at hv
    split at hv<;>simp only[reduceCtorEq,PQ.snil.injEq,jc.injEq,and_true] at *
    rename_i ne' x' e1 e2;subst e1;obtain⟨hx,hy⟩:=e2
    split at hv
    ·injection hv with hv;subst hv
     exact NQ op' ne hop T T' e x y hu _ hy (.inl ⟨hx,rfl⟩) h
    ·injection hv with hv;subst hv
     exact NQ op' ne hop T T' e x y hu _ hy (.inr (.inl ⟨_,hx,rfl⟩)) h
    ·injection hv with hv;subst hv
     exact NQ op' ne hop T T' e x y hu _ hy (.inr (.inr ⟨_,_,_,hx,rfl⟩)) h
    ·cases hv
   split at ht
   ·exact nl _ false rfl ht
   ·exact nl _ true rfl ht
   ·cases ht
  ·cases ht
 ·rename_i c;obtain⟨callee,args,ats⟩:=c
  split at ht
  ·rename_i hc;simp only at hc;subst hc
   split at ht
   ·rename_i x y hargs;have ea:args=#[x,y]:=by apply Array.ext';simpa using hargs
    subst ea;injection ht with e;injection e with e1 e2;subst e1 e2
    simp only[zl,qa] at hv;unfold pq at hv
    split at hv<;>simp only[reduceCtorEq,jc.injEq,and_true] at *
    rename_i k a k' b _ e2;obtain⟨hx,hy⟩:=e2
    split at hv
    ·rename_i hk;subst hk;injection hv with hv;subst hv
     exact rV _ x y ats k a b hx hy h
    ·cases hv
   ·cases ht
  ·rename_i hc;simp only at hc;subst hc
   split at ht
   ·rename_i x y hargs;have ea:args=#[x,y]:=by apply Array.ext';simpa using hargs
    subst ea;injection ht with e;injection e with e1 e2;subst e1 e2
    simp only[zl,qa] at hv;unfold pq at hv
    split at hv<;>simp only[reduceCtorEq,jc.injEq,and_true] at *
    rename_i k a k' b _ e2;obtain⟨hx,hy⟩:=e2
    split at hv
    ·rename_i hk;subst hk;injection hv with hv;subst hv
     exact rW _ x y ats k a b hx hy h
    ·cases hv
   ·cases ht
  ·cases ht
 ·rename_i T x lo
  split at ht
  ·rename_i e hu
   split at ht
   ·rename_i i hi;injection ht with ee;injection ee with e1 e2;subst e1 e2
    simp only[zl,qa] at hv;unfold pq at hv
    split at hv<;>simp only[reduceCtorEq,PQ.rsl.injEq,jc.injEq,and_true] at *
    ·rename_i sz n ys k l e1 e2;subst e1;obtain⟨hx,hy⟩:=e2
     split at hv
     ·rename_i hb;injection hv with hv;subst hv
      exact sQ T x lo e i hu hi n ys k l hx hy hb.1 hb.2 h
     ·cases hv
    ·rename_i sz k l e1 e2;obtain⟨hx,hy⟩:=e2
     split at hv
     ·rename_i hb;subst hb;injection hv with hv;subst hv
      exact sR T x lo e i hu hi k hx hy h
     ·cases hv
   ·cases ht
  ·rename_i len e hu
   split at ht
   ·rename_i i hi;injection ht with ee;injection ee with e1 e2;subst e1 e2
    simp only[zl,qa] at hv;unfold pq at hv
    split at hv<;>simp only[reduceCtorEq,PQ.asl.injEq,jc.injEq,and_true] at *
    rename_i sz len' b off k l e1 e2;obtain⟨e1,e3⟩:=e1;subst e1 e3;obtain⟨hx,hy⟩:=e2
    split at hv
    ·rename_i hb;injection hv with hv;subst hv
     exact sE T x lo e i len hu hi b off k l hx hy hb.1 hb.2 h
    ·cases hv
   ·cases ht
  ·cases ht
 ·rename_i T x lo hi'
  split at ht
  ·rename_i e hu
   split at ht
   ·rename_i i hi;injection ht with ee;injection ee with e1 e2;subst e1 e2
    simp only[zl,qa] at hv;unfold pq at hv
    split at hv<;>simp only[reduceCtorEq,PQ.rslb.injEq,jc.injEq,and_true] at *
    rename_i sz n ys k l k' m e1 e2;subst e1;obtain⟨hx,hlo,hhi⟩:=e2
    split at hv
    ·rename_i hb;injection hv with hv;subst hv
     exact YR T x lo hi' e i hu hi n ys k k' l m hx hlo hhi hb.1 hb.2.1 hb.2.2 h
    ·cases hv
   ·cases ht
  ·rename_i len e hu
   split at ht
   ·rename_i i hi;injection ht with ee;injection ee with e1 e2;subst e1 e2
    simp only[zl,qa] at hv;unfold pq at hv
    split at hv<;>simp only[reduceCtorEq,PQ.aslb.injEq,jc.injEq,and_true] at *
    rename_i sz len' b off k l k' m e1 e2;obtain⟨e1,e3⟩:=e1;subst e1 e3;obtain⟨hx,hlo,hhi⟩:=e2
    split at hv
    ·rename_i hb;injection hv with hv;subst hv
     exact Zb T x lo hi' e i len hu hi b off k k' l m hx hlo hhi hb.1 hb.2.1 hb.2.2.1 hb.2.2.2 h
    ·cases hv
   ·cases ht
  ·cases ht
 ·rename_i T x hi'
  split at ht
  ·rename_i len e hu
   split at ht
   ·rename_i i hi;injection ht with ee;injection ee with e1 e2;subst e1 e2
    simp only[zl,qa] at hv;unfold pq at hv
    split at hv<;>simp only[reduceCtorEq,PQ.aslh.injEq,jc.injEq,and_true] at *
    rename_i sz len' b off k l e1 e2;obtain⟨e1,e3⟩:=e1;subst e1 e3;obtain⟨hx,hy⟩:=e2
    split at hv
    ·rename_i hb;injection hv with hv;subst hv
     exact Zc T x hi' e i len hu hi b off k l hx hy hb.1 hb.2.1 hb.2.2 h
    ·cases hv
   ·cases ht
  ·cases ht
 ·rename_i T x hi' mx'
  split at ht
  ·rename_i e hu
   split at ht
   ·rename_i i hi;injection ht with ee;injection ee with e1 e2;subst e1 e2
    simp only[zl,qa] at hv;unfold pq at hv
    split at hv<;>simp only[reduceCtorEq,jc.injEq,and_true] at *
    ·rename_i n ys k a k' b _ e2;obtain⟨hx,hh,hm⟩:=e2
     split at hv
     ·rename_i hb;obtain⟨rfl,rfl⟩:=hb;injection hv with hv;subst hv
      exact QX T x hi' mx' e i hu hi n ys k k' (.inl hx) hh hm h
     ·cases hv
    ·rename_i k a k' b _ e2;obtain⟨hx,hh,hm⟩:=e2
     split at hv
     ·rename_i hb;obtain⟨rfl,rfl⟩:=hb;injection hv with hv;subst hv
      exact QX T x hi' mx' e i hu hi 0 [] k k' (.inr ⟨hx,rfl,rfl⟩) hh hm h
     ·cases hv
   ·cases ht
  ·cases ht
 ·rename_i T x
  split at ht
  ·rename_i e hu;injection ht with ee;injection ee with e1 e2;subst e1 e2
   simp only[zl,qa] at hv;unfold pq at hv
   split at hv<;>simp only[reduceCtorEq,PQ.mki.injEq,jc.injEq,and_true] at *
   ·rename_i T2 b off e1 e2;subst e1;injection hv with hv;subst hv
    exact LE T _ _ hu (by simp) x _ (.inl ⟨b,off,e2,rfl⟩) h
   ·rename_i T2 k n e1 e2;subst e1;injection hv with hv;subst hv
    exact LE T _ _ hu (by simp) x _ (.inr ⟨k,n,e2,rfl⟩) h
  ·rename_i kk hu;injection ht with ee;injection ee with e1 e2;subst e1 e2
   simp only[zl,qa] at hv;unfold pq at hv
   split at hv<;>simp only[reduceCtorEq,PQ.mki.injEq,jc.injEq,and_true] at *
   ·rename_i T2 b off e1 e2;subst e1;injection hv with hv;subst hv
    exact LE T _ _ hu (by simp) x _ (.inl ⟨b,off,e2,rfl⟩) h
   ·rename_i T2 k n e1 e2;subst e1;injection hv with hv;subst hv
    exact LE T _ _ hu (by simp) x _ (.inr ⟨k,n,e2,rfl⟩) h
  ·cases ht
 ·rename_i x xT T
  split at ht
  ·rename_i kk hu;injection ht with ee;injection ee with e1 e2;subst e1 e2
   simp only[zl,qa] at hv;unfold pq at hv
   split at hv<;>simp only[reduceCtorEq,PQ.tas.injEq,jc.injEq,and_true] at *
   rename_i T2 T3 k n e1 e2;subst e1
   split at hv
   ·rename_i hT;subst hT;injection hv with hv;subst hv
    exact sU _ _ _ kk hu x k n e2 h
   ·cases hv
  ·cases ht
 ·cases ht
end
set_option linter.constructorNameAsVariable false
def Qv (k:List UInt8):List (List UInt8×AV)->Option AV
 | []=>none
 | e::r=>if e.1=k then some e.2 else Qv k r
def Qw (k:List UInt8) (v:AV):List (List UInt8×AV)->List (List UInt8×AV)
 | []=>[(k,v)]
 | e::r=>if e.1=k then (k,v)::r else e::Qw k v r
def Nd (z:AV) (ok:Bool):Option AV->AV
 | some v=>if ok then .tup [v,.b true] else v
 | none=>if ok then .tup [z,.b false] else z
section
variable {P:Program} {C:Cx} {objs:List OB} {tm:List AV} {K:List OB->AV->Prop} {type:TypeId}
end
set_option linter.constructorNameAsVariable false
def Lb:AV->Option (List UInt8)
 | .agg [.s h,.i .i64 (.ofNat n)]=>if n<65536/\h.length<=1000000 then some (UInt8.ofNat (n / 256)::UInt8.ofNat (n % 256)::h) else none
 | _=>none
section
variable {P:Program} {C:Cx} {objs:List OB} {tm:List AV} {K:List OB->AV->Prop} {type:TypeId}
end
inductive SOp where
 | mv (x:SV)
 | pick (c x y:SV)
 | alloc (T:Nat) (z:List AV)
 | box (T:Nat) (x:SV)
 | build (z:List AV) (ps:List (Nat×Nat×SV))
 | bslice (len:Nat) (z:List AV) (ps:List (Nat×Nat×SV))
 | bslo (E sz len:Nat) (z:List AV) (ps:List (Nat×Nat×SV))
 | load1 (x:SV)
 | loadn (sz:Nat) (x:SV)
 | store (sz:Nat) (x y:SV)
 | nck (x:SV)
 | bin (op:BinOp) (x y:SV)
 | beq (ne:Bool) (x y:SV)
 | eqs (ne:Bool) (et:ET) (x y:SV)
 | not (x:SV)
 | neg (x:SV)
 | cvi (k:IntKind) (x:SV)
 | cvs (x:SV)
 | cvbs (x:SV)
 | slcs (x:SV) (lo hi:Option SV)
 | fad (off:Nat) (x:SV)
 | fld1 (off:Nat) (x:SV)
 | fldn (off sz:Nat) (x:SV)
 | iad (sz:Nat) (x y:SV)
 | iada (sz len:Nat) (x y:SV)
 | iadr (sz:Nat) (x y:SV)
 | idx (x y:SV)
 | ext (x:SV) (k:Nat)
 | call (f:Nat) (args:List SV)
 | pcall (f:Nat) (args:List SV)
 | callv (x:SV) (args:List SV)
 | inv (tab:List (Nat×Nat)) (x:SV) (args:List SV)
 | app (E sz bytes:Nat) (x y:SV)
 | apps (E:Nat) (x y:SV)
 | lens (x:SV)
 | lenr (x:SV)
 | mks (E sz bytes:Nat) (x y:SV)
 | mkz (E bytes:Nat) (kd:IntKind) (z:Int) (x:SV)
 | capp (sz bytes:Nat) (x y:SV)
 | cappo (E sz bytes:Nat) (x y:SV)
 | trn (sz:Nat) (x y:SV)
 | mkf (f:Nat) (fs cs:List SV)
 | pu (q:PQ) (xs:List SV)
 | mkm0
 | mkm1 (x:SV)
 | lk (z:AV) (ok:Bool) (x y:SV)
 | mup (x y v:SV)
 | mph (q:Nat) (z:AV) (x y v:SV)
def Fe (k:IntKind) (r:Int) (K:Int->Prop):Prop :=
 match k with
 | .i64=>(-9223372036854775808<=r/\r<=9223372036854775807)/\K r
 | k=>K (k.wrap r)
def Hw (tm:List AV) (d:Int):Option SV->Option Int
 | none=>some d
 | some x=>match x.ev tm with
  | .i _ n=>some n
  | _=>none
def Gy (op:BinOp) (x y:AV) (K:AV->Prop):Prop :=
 match x,y with
 | .i k m,.i k' n=>k=k' /\
  match op with
  | .add=>Fe k (m+n) fun r=>K (.i k r)
  | .sub=>Fe k (m - n) fun r=>K (.i k r)
  | .mul=>Fe k (m*n) fun r=>K (.i k r)
  | .quo=>n≠0/\Fe k (m.tdiv n) fun r=>K (.i k r)
  | .rem=>n≠0/\K (.i k (m.tmod n))
  | .eql=>K (.b (decide (m=n)))
  | .neq=>K (.b (decide (¬m=n)))
  | .lss=>K (.b (decide (m<n)))
  | .leq=>K (.b (decide (m<=n)))
  | .gtr=>K (.b (decide (n<m)))
  | .geq=>K (.b (decide (n<=m)))
  | _=>False
 | .s l,.s m=>
  match op with
  | .add=>l.length+m.length<=9223372036854775807/\K (.s (l++m))
  | .eql=>K (.b (decide (l=m)))
  | .neq=>K (.b (decide (¬l=m)))
  | _=>False
 | _,_=>False
def Ai (P:Program) [Tabs P] (so:SOp) (objs:List OB) (tm:List AV) (K:List OB->AV->Prop):Prop :=
 match so with
 | .mv x=>K objs (x.ev tm)
 | .pick c x y=>match c.ev tm with
  | .b t=>(t=true->K objs (x.ev tm))/\(t=false->K objs (y.ev tm))
  | _=>False
 | .alloc T z=>K (objs++[.box T z]) (.p objs.length 0)
 | .box T x=>(x.ev tm).flat=true/\K (objs++[.box T (x.ev tm).cells]) (.p objs.length 0)
 | .build z ps=>match EM z (ps.map fun p=>(p.1,p.2.1,p.2.2.ev tm)) with
  | some cs=>K objs (.agg cs)
  | none=>False
 | .bslice len z ps=>match EM z (ps.map fun p=>(p.1,p.2.1,p.2.2.ev tm)) with
  | some cs=>K objs (.row len cs)
  | none=>False
 | .bslo E sz len z ps=>match EM z (ps.map fun p=>(p.1,p.2.1,p.2.2.ev tm)) with
  | some cs=>cs.length=len*sz/\K (objs++[.orow E sz 0 len cs]) (.orow objs.length 0)
  | none=>False
 | .load1 x=>match x.ev tm with
  | .p b off=>match objs[b]? with
   | some (.box _ cs)=>match cs[off]? with
    | some v=>K objs v
    | none=>False
   | _=>False
  | .prow xs j=>∃v,xs[j]? = some v/\K objs v
  | .porow b gen j=>match objs[b]? with
   | some (.orow _ _ gen' _ xs)=>gen'=gen/\∃v,xs[j]? = some v/\K objs v
   | _=>False
  | _=>False
 | .loadn sz x=>match x.ev tm with
  | .p b off=>match objs[b]? with
   | some (.box _ cs)=>off+sz<=cs.length/\K objs (.agg ((cs.drop off).take sz))
   | _=>False
  | .prow xs j=>j+sz<=xs.length/\K objs (.agg ((xs.drop j).take sz))
  | .porow b gen j=>match objs[b]? with
   | some (.orow _ _ gen' _ xs)=>(gen'=gen/\j+sz<=xs.length)/\K objs (.agg ((xs.drop j).take sz))
   | _=>False
  | _=>False
 | .store sz x y=>match x.ev tm with
  | .p b off=>match objs[b]? with
   | some (.box T cs)=>((y.ev tm).flat=true/\(y.ev tm).cells.length=sz/\off+sz<=cs.length)/\K (objs.set b (.box T (D4 cs off (y.ev tm).cells))) .u
   | _=>False
  | .porow b gen j=>match objs[b]? with
   | some (.orow E s gen' n xs)=>(gen'=gen/\(y.ev tm).flat=true/\(y.ev tm).cells.length=sz/\j+sz<=xs.length)/\K (objs.set b (.orow E s gen' n (D4 xs j (y.ev tm).cells))) .u
   | _=>False
  | _=>False
 | .nck x=>match x.ev tm with
  | .p b o=>K objs (.p b o)
  | .prow xs j=>K objs (.prow xs j)
  | .fn f fs cs=>K objs (.fn f fs cs)
  | .porow b gen j=>K objs (.porow b gen j)
  | _=>False
 | .bin op x y=>Gy op (x.ev tm) (y.ev tm) fun v=>K objs v
 | .beq ne x y=>match x.ev tm,y.ev tm with
  | .b l,.b m=>K objs (.b (if ne then !(l==m) else (l==m)))
  | _,_=>False
 | .eqs ne et x y=>match x.ev tm,y.ev tm with
  | .agg xs,.agg ys=>match Ee et (.agg xs) (.agg ys) with
   | some r=>K objs (.b (if ne then !r else r))
   | none=>False
  | _,_=>False
 | .not x=>match x.ev tm with
  | .b t=>K objs (.b (!t))
  | _=>False
 | .neg x=>match x.ev tm with
  | .i k n=>Fe k (0 - n) fun r=>K objs (.i k r)
  | _=>False
 | .cvi k x=>match x.ev tm with
  | .i _ n=>K objs (.i k (k.wrap n))
  | _=>False
 | .cvs x=>match x.ev tm with
  | .s l=>K objs (.s l)
  | _=>False
 | .cvbs x=>match x.ev tm with
  | .orow b gen=>match objs[b]? with
   | some (.orow _ sz gen' _ xs)=>(gen'=gen/\sz=1)/\∃l,xs=DQ l/\K objs (.s l)
   | _=>False
  | .row n xs=>∃l,(xs=DQ l/\n=l.length)/\K objs (.s l)
  | .nil=>K objs (.s [])
  | .bsl b off n=>match objs[b]? with
   | some (.box _ cs)=>∃l,((cs.drop off).take n=DQ l/\l.length=n)/\K objs (.s l)
   | _=>False
  | _=>False
 | .slcs x lo hi=>match x.ev tm with
  | .s l=>match Hw tm 0 lo,Hw tm l.length hi with
   | some i,some j=>(0<=i/\i<=j/\j<=l.length)/\K objs (.s ((l.take j.toNat).drop i.toNat))
   | _,_=>False
  | _=>False
 | .fad off x=>match x.ev tm with
  | .p b o=>K objs (.p b (o+off))
  | .prow xs j=>K objs (.prow xs (j+off))
  | .porow b gen j=>K objs (.porow b gen (j+off))
  | _=>False
 | .fld1 off x=>match x.ev tm with
  | .agg cs=>match cs[off]? with
   | some v=>K objs v
   | none=>False
  | _=>False
 | .fldn off sz x=>match x.ev tm with
  | .agg cs=>K objs (.agg ((cs.drop off).take sz))
  | _=>False
 | .iad sz x y=>match x.ev tm,y.ev tm with
  | .row n xs,.i _ i=>(0<=i/\i<n/\n*sz<=xs.length)/\K objs (.prow xs (i.toNat*sz))
  | .orow b gen,.i _ i=>match objs[b]? with
   | some (.orow _ s gen' n _)=>(gen'=gen/\s=sz/\0<=i/\i<n)/\K objs (.porow b gen (i.toNat*sz))
   | _=>False
  | _,_=>False
 | .iadr sz x y=>match x.ev tm,y.ev tm with
  | .row n xs,.i _ i=>(0<=i/\i<n/\n*sz<=xs.length)/\K objs (.prow xs (i.toNat*sz))
  | _,_=>False
 | .iada sz len x y=>match x.ev tm,y.ev tm with
  | .p b off,.i _ i=>(0<=i/\i<len)/\K objs (.p b (off+i.toNat*sz))
  | _,_=>False
 | .idx x y=>match x.ev tm,y.ev tm with
  | .s l,.i _ n=>(0<=n/\n<l.length)/\K objs (.i .u8 ((l.getD n.toNat 0).toNat:Int))
  | _,_=>False
 | .ext x k=>match x.ev tm with
  | .tup vs=>match vs[k]? with
   | some v=>K objs v
   | none=>False
  | _=>False
 | .call f args=>Ah P f (args.map fun x=>x.ev tm) objs K
 | .pcall f args=>AE (args.map fun x=>x.ev tm)=true/\Ah P f (args.map fun x=>x.ev tm) [] fun _ r=>r.plain=true/\K objs r
 | .callv x args=>match x.ev tm with
  | .fn f fs cs => (∃ fn, P.funcs[f]? = some fn ∧ fn.body.isSome = true ∧ fn.name ≠ "runtime.NumGoroutine") ∧ Ah P f (fs ++ (args.map fun x => x.ev tm) ++ cs) objs K
  | _=>False
 | .inv tab x args=>match x.ev tm with
  | .ip T b off=>match tab.lookup T with
   | some f=>Ah P f (.p b off::(args.map fun x=>x.ev tm)) objs K
   | none=>False
  | _=>False
 | .app E sz bytes x y=>match Ec objs (y.ev tm) with
  | some (m,ys)=>match x.ev tm with
   | .orow b gen=>match objs[b]? with
    | some (.orow E' sz' gen' n xs)=>((E'=E/\sz'=sz/\gen'=gen)/\ys.length=m*sz/\(n+m)*bytes<=140737488355328/\n+m<=140737488355328)/\K (objs.set b (.orow E sz (gen+1) (n+m) (xs++ys))) (.orow b (gen+1))
    | _=>False
   | .nil=>(ys.length=m*sz/\m*bytes<=140737488355328/\m<=140737488355328)/\K (objs++[.orow E sz 0 m ys]) (.orow objs.length 0)
   | _=>False
  | none=>False
 | .capp sz bytes x y=>match x.ev tm,Ec [] (y.ev tm) with
  | .crow n xs,some (m,ys)=>((xs.length=n*sz/\ys.length=m*sz)/\0<m/\(n+m)*bytes<=140737488355328/\n+m<=140737488355328)/\K objs (.row (n+m) (xs++ys))
  | _,_=>False
 | .cappo E sz bytes x y=>match x.ev tm,Ec objs (y.ev tm) with
  | .crow n xs,some (m,ys)=>((xs.length=n*sz/\ys.length=m*sz)/\0<m/\(n+m)*bytes<=140737488355328/\n+m<=140737488355328)/\K (objs++[.orow E sz 0 (n+m) (xs++ys)]) (.orow objs.length 0)
  | _,_=>False
 | .apps E x y=>match y.ev tm with
  | .s l=>match x.ev tm with
   | .orow b gen=>match objs[b]? with
    | some (.orow E' sz' gen' n xs)=>((E'=E/\sz'=1/\gen'=gen)/\n+l.length<=140737488355328)/\K (objs.set b (.orow E 1 (gen+1) (n+l.length) (xs++DQ l))) (.orow b (gen+1))
    | _=>False
   | .nil=>l.length<=140737488355328/\K (objs++[.orow E 1 0 l.length (DQ l)]) (.orow objs.length 0)
   | _=>False
  | _=>False
 | .lens x=>match x.ev tm with
  | .s l=>K objs (.i .i64 l.length)
  | _=>False
 | .lenr x=>match x.ev tm with
  | .row n _=>K objs (.i .i64 n)
  | .nil=>K objs (.i .i64 0)
  | .zn _=>K objs (.i .i64 0)
  | .orow b gen=>match objs[b]? with
   | some (.orow _ _ gen' n _)=>gen'=gen/\K objs (.i .i64 n)
   | _=>False
  | _=>False
 | .mks E sz bytes x y=>match x.ev tm,y.ev tm with
  | .i _ l,.i _ c=>(l=0/\0<=c/\(bytes:Int)*c<=281474976710656/\c<=140737488355328)/\K (objs++[.orow E sz 0 0 []]) (.orow objs.length 0)
  | _,_=>False
 | .mkz E bytes kd z x=>match x.ev tm with
  | .i _ l=>(0<=l/\(bytes:Int)*l<=281474976710656/\l<=140737488355328)/\K (objs++[.orow E 1 0 l.toNat (List.replicate l.toNat (.i kd z))]) (.orow objs.length 0)
  | _=>False
 | .trn sz x y=>match x.ev tm,y.ev tm with
  | .row n xs,.i _ j=>(0<=j/\j<=n)/\K objs (.row j.toNat (xs.take (j.toNat*sz)))
  | .nil,.i _ j=>j=0/\K objs .nil
  | .orow b gen,.i _ j=>match objs[b]? with
   | some (.orow E s gen' n xs)=>(gen'=gen/\s=sz/\0<=j/\j<=n)/\K (objs.set b (.orow E s (gen+1) j.toNat (xs.take (j.toNat*s)))) (.orow b (gen+1))
   | _=>False
  | _,_=>False
 | .mkf f fs cs=>K objs (.fn f (fs.map fun x=>x.ev tm) (cs.map fun x=>x.ev tm))
 | .pu q xs=>match pq q (xs.map fun x=>x.ev tm) with
  | some v=>K objs v
  | none=>False
 | .mkm0=>K (objs++[.mp []]) (.m objs.length)
 | .mkm1 x=>match x.ev tm with
  | .i _ _=>K (objs++[.mp []]) (.m objs.length)
  | _=>False
 | .lk z ok x y=>match x.ev tm,y.ev tm with
  | .m b,.s l=>match objs[b]? with
   | some (.mp es)=>K objs (Nd z ok (Qv l es))
   | _=>False
  | _,_=>False
 | .mup x y v=>match x.ev tm,y.ev tm with
  | .m b,.s l=>match objs[b]? with
   | some (.mp es)=>(v.ev tm).one=true/\K (objs.set b (.mp (Qw l (v.ev tm) es))) .u
   | _=>False
  | _,_=>False
 | .mph q z x y v=>match q with
  | 0=>K (objs++[.mpk true []]) (.m objs.length)
  | 1=>match x.ev tm,Lb (y.ev tm) with
   | .m b,some l=>match objs[b]? with
    | some (.mpk true es)=>(v.ev tm).one=true/\K (objs.set b (.mpk true (Qw l (v.ev tm) es))) .u
    | _=>False
   | _,_=>False
  | q+2=>match x.ev tm,Lb (y.ev tm) with
   | .m b,some l=>match objs[b]? with
    | some (.mpk true es)=>K objs (Nd z (q==1) (Qv l es))
    | _=>False
   | _,_=>False
def Ge (P:Program):Op->Option SOp
 | .move x | .assign x=>some (.mv (Ag x))
 | .pick c x y=>some (.pick (Ag c) (Ag x) (Ag y))
 | .alloc T=>match P.info? T with
  | some i=>match i.zero with
   | some z=>if z.cells.toList.all (·.oneCell')=true then some (.alloc T (z.cells.toList.map Fh)) else none
   | none=>none
  | none=>none
 | .box T x=>some (.box T (Ag x))
 | .build t parts=>match P.info? t,Om P t with
  | some it,some place=>match it.zero,parts.toList.mapM (fun p=>(place p.1).map fun q=>(q.1,q.2,Ag p.2)) with
   | some z,some ps=>if z.cells.toList.all (·.oneCell')=true then some (.build (z.cells.toList.map Fh) ps) else none
   | _,_=>none
  | _,_=>none
 | .buildSlice t len parts=>match P.underlying t with
  | some (.slice e)=>match P.info? e with
   | some ie=>match ie.zero,parts.toList.mapM (fun p=>((fun i=>some (i*ie.size,ie.size)) p.1:Option (Nat×Nat)).map fun q=>(q.1,q.2,Ag p.2)) with
    | some z,some ps=>if (¬len*ie.size > 2 ^ 24/\¬len*ie.size=0)/\((Array.range (len*ie.size)).map (z.cells[· % z.cells.size]!)).toList.all (·.oneCell')=true then some (.bslice len (((Array.range (len*ie.size)).map (z.cells[· % z.cells.size]!)).toList.map Fh) ps) else if len=0/\parts.toList=[] then some (.mks e ie.size 1 (.c (.i .i64 0)) (.c (.i .i64 0))) else none
    | _,_=>none
   | none=>none
  | _=>none
 | .load t x=>match P.underlying t,P.info? t with
  | some d,some i=>if d.isRow=true then some (.loadn i.size (Ag x)) else some (.load1 (Ag x))
  | _,_=>none
 | .store t x y=>match P.info? t with
  | some i=>some (.store i.size (Ag x) (Ag y))
  | none=>none
 | .nilCheck x=>some (.nck (Ag x))
 | .binOp op T x y _=>match P.underlying T with
  | some .bool=>match op with
   | .eql=>some (.beq false (Ag x) (Ag y))
   | .neq=>some (.beq true (Ag x) (Ag y))
   | _=>none
  | some (.struct _)=>match Hm P 10000 T with
   | some et=>if P.eqGuardType P.depth T=false then (match op with
    | .eql=>some (.eqs false et (Ag x) (Ag y))
    | .neq=>some (.eqs true et (Ag x) (Ag y))
    | _=>none) else none
   | none=>none
  | _=>some (.bin op (Ag x) (Ag y))
 | .unOp .not _ x=>some (.not (Ag x))
 | .unOp .neg _ x=>some (.neg (Ag x))
 | .convert src dst x=>match P.underlying src,P.underlying dst with
  | some .string,some .string=>some (.cvs (Ag x))
  | some (.slice e),some .string=>match P.underlying e with
   | some (.int .u8)=>some (.cvbs (Ag x))
   | _=>none
  | some _,some (.int k)=>some (.cvi k (Ag x))
  | _,_=>none
 | .slice t x lo hi none=>match P.underlying t with
  | some .string=>some (.slcs (Ag x) (lo.map Ag) (hi.map Ag))
  | some (.slice e)=>match lo,hi,P.info? e with
   | none,some hi,some i=>some (.trn i.size (Ag x) (Ag hi))
   | _,_,_=>none
  | _=>none
 | .fieldAddr t x k=>match P.underlying t with
  | some (.struct fs)=>match fs[k]? with
   | some f=>match P.info? f.type with
    | some i=>if i.size=0 then none else some (.fad f.offset (Ag x))
    | none=>none
   | none=>none
  | _=>none
 | .field t x k=>match P.underlying t with
  | some (.struct fs)=>match fs[k]? with
   | some f=>match P.underlying f.type,P.info? f.type with
    | some d,some i=>if d.isRow=true then some (.fldn f.offset i.size (Ag x)) else some (.fld1 f.offset (Ag x))
    | _,_=>none
   | none=>none
  | _=>none
 | .indexAddr t x y=>match P.underlying t with
  | some (.slice e)=>match P.info? e with
   | some i=>if i.size=0 then none else some (.iad i.size (Ag x) (Ag y))
   | none=>none
  | some (.array len e)=>match P.info? e with
   | some i=>if i.size=0 then none else some (.iada i.size len (Ag x) (Ag y))
   | none=>none
  | _=>none
 | .index t x y=>match P.underlying t with
  | some .string=>some (.idx (Ag x) (Ag y))
  | _=>none
 | .extract x k=>some (.ext (Ag x) k)
 | .makeFunc (.func f) fs cs=>some (.mkf f (fs.toList.map Ag) (cs.toList.map Ag))
 | .makeSlice t x y=>match P.underlying t with
  | some (.slice e)=>match P.info? e with
   | some i=>match i.zero with
    | some _=>some (.mks e i.size i.bytes (Ag x) (Ag y))
    | none=>none
   | none=>none
  | _=>none
 | .call c=>match c.callee with
  | .value (.func f)=>match P.funcs[f]? with
   | some fn => if fn.body.isSome = true ∧ fn.name ≠ "runtime.NumGoroutine" then some (.call f (c.args.toList.map Ag)) else none
   | none=>none
  | .value (.tmp t)=>some (.callv (.t t) (c.args.toList.map Ag))
  | .builtin .len=>match c.args.toList,c.argTypes.toList with
   | [x],[T]=>match P.underlying T with
    | some .string=>some (.lens (Ag x))
    | some (.slice _)=>some (.lenr (Ag x))
    | _=>none
   | _,_=>none
  | .builtin .append=>match c.args.toList,c.argTypes.toList with
   | [x,y],[T,U]=>match P.underlying T with
    | some (.slice e)=>match P.info? e with
     | some i=>match i.zero with
      | some z=>if T=U then (if z.cells.size=i.size/\0<i.size then some (.app e i.size i.bytes (Ag x) (Ag y)) else none)
       else match P.underlying U,z with
        | some .string,.int .u8 0=>if i.size=1/\i.bytes=1 then some (.apps e (Ag x) (Ag y)) else none
        | _,_=>none
      | none=>none
     | none=>none
    | _=>none
   | _,_=>none
  | _=>none
 | _=>none
def Ji (P:Program) (o:Op):Option SOp :=
 match QB P o with
 | some (q,xs)=>some (.pu q xs)
 | none=>Ge P o
theorem Kh {k:IntKind} {r:Int} {K:Int->Prop} (h:Fe k r K):K (k.wrap r):=by
 cases k<;>simp only[Fe] at h<;>first|exact h|(rw[IntWalk.i64_in r h.1];exact h.2)
theorem aT (tm:List AV) (d:Int) (o:Option Operand):Hw tm d (o.map Ag)=svb tm d o:=by cases o<;>rfl
section
variable {P:Program} {C:Cx} {type:TypeId} {objs:List OB} {tm:List AV} {K:List OB->AV->Prop}
theorem qT (op:BinOp) (T T':TypeId) (x y:Operand) (h:Gy op ((Ag x).ev tm) ((Ag y).ev tm) fun v=>K objs v):AH P C (.binOp op T x y T') type objs tm K:=by
 unfold Gy at h
 split at h
 ·rename_i k m k' n hx hy;obtain⟨rfl,h⟩:=h
  split at h
  ·exact NH .add T T' x y k m n _ hx hy rfl (Kh h)
  ·exact NH .sub T T' x y k m n _ hx hy rfl (Kh h)
  ·exact NH .mul T T' x y k m n _ hx hy rfl (Kh h)
  ·exact sO T T' x y k m n hx hy h.1 (Kh h.2)
  ·exact sP T T' x y k m n hx hy h.1 h.2
  ·exact Js .eql T T' x y k m n _ hx hy rfl h
  ·exact Js .neq T T' x y k m n _ hx hy rfl h
  ·exact Js .lss T T' x y k m n _ hx hy rfl h
  ·exact Js .leq T T' x y k m n _ hx hy rfl h
  ·exact Js .gtr T T' x y k m n _ hx hy rfl h
  ·exact Js .geq T T' x y k m n _ hx hy rfl h
  ·exact h.elim
 ·rename_i l m hx hy
  split at h
  ·exact sG T T' x y l m hx hy h.1 h.2
  ·exact QW .eql T T' x y l m _ hx hy (.inl ⟨rfl,rfl⟩) h
  ·exact QW .neq T T' x y l m _ hx hy (.inr ⟨rfl,rfl⟩) h
  ·exact h.elim
 ·exact h.elim
end
section
variable {P:Program} [Tabs P] {C:Cx} [On P C] {type:TypeId} {objs:List OB} {tm:List AV} {K:List OB->AV->Prop}
theorem Zk (o:Op) (so:SOp) (ht:Ge P o=some so) (h:Ai P so objs tm K):AH P C o type objs tm K:=by
 unfold Ge at ht
 split at ht
 ·injection ht with ht;subst ht;exact YP _ h
 ·injection ht with ht;subst ht;exact dL _ h
 ·injection ht with ht;subst ht
  simp only[Ai] at h
  split at h
  ·rename_i t hc;exact YQ _ _ _ t hc h.1 h.2
  ·exact h.elim
 ·-- alloc
  split at ht
  ·rename_i i hi
   split at ht
   ·rename_i z hz
    split at ht
    ·rename_i h1;injection ht with ht;subst ht
     exact bG _ i z hi hz h1 h
    ·cases ht
   ·cases ht
  ·cases ht
 ·injection ht with ht;subst ht
  exact sF _ _ h.1 h.2
 ·-- build
  split at ht
  ·rename_i it place hi hpl
   split at ht
   ·rename_i z ps hz hps
    split at ht
    ·rename_i h1;injection ht with ht;subst ht
     simp only[Ai] at h
     split at h
     ·rename_i cs hf;exact bI _ _ it z hi hz h1 place hpl ps hps cs hf h
     ·exact h.elim
    ·cases ht
   ·cases ht
  ·cases ht
 ·-- buildSlice
  split at ht
  ·rename_i e hu
   split at ht
   ·rename_i ie hie
    split at ht
    ·rename_i z ps hz hps
     split at ht
     ·rename_i h1;injection ht with ht;subst ht
      simp only[Ai] at h
      split at h
      ·rename_i cs hf;exact dM _ e _ _ ie z hu hie hz h1.1.1 h1.1.2 _ rfl h1.2 ps hps cs hf h
      ·exact h.elim
     ·split at ht
      ·rename_i h0;injection ht with ht;subst ht
       simp only[Ai,SV.ev] at h;exact YH _ e _ _ ie hu hie h0.1 h0.2 h.2
      ·cases ht
    ·cases ht
   ·cases ht
  ·cases ht
 ·-- load
  split at ht
  ·rename_i d i hu hi
   split at ht
   ·rename_i hr;injection ht with ht;subst ht
    simp only[Ai] at h
    split at h
    ·rename_i b off hx
     split at h
     ·rename_i B cs hb;exact bL _ _ d hu hr i.size (by rw[hi];rfl) b off B cs hx hb h.1 h.2
     ·exact h.elim
    ·rename_i xs j hx;exact dQ _ _ d hu hr i.size (by rw[hi];rfl) xs j hx h.1 h.2
    ·rename_i b gen j hx
     split at h
     ·rename_i E s gen' n xs hb;obtain⟨⟨rfl,h1⟩,h⟩:=h;exact dP _ _ d hu hr i.size (by rw[hi];rfl) b _ j E s n xs hx hb h1 h
     ·exact h.elim
    ·exact h.elim
   ·rename_i hr;have hr:d.isRow=false:=by simpa using hr
    injection ht with ht;subst ht
    simp only[Ai] at h
    split at h
    ·rename_i b off hx
     split at h
     ·rename_i B cs hb
      split at h
      ·rename_i v hv;exact bK _ _ d hu hr b off B cs v hx hb hv h
      ·exact h.elim
     ·exact h.elim
    ·rename_i xs j hx;obtain⟨v,hv,h⟩:=h;exact dO _ _ d hu hr xs j v hx hv h
    ·rename_i b gen j hx
     split at h
     ·rename_i E s gen' n xs hb;obtain⟨rfl,v,hv,h⟩:=h;exact dN _ _ d hu hr b _ j E s n xs v hx hb hv h
     ·exact h.elim
    ·exact h.elim
  ·cases ht
 ·-- store
  split at ht
  ·rename_i i hi;injection ht with ht;subst ht
   simp only[Ai] at h
   split at h
   ·rename_i b off hx
    split at h
    ·rename_i T cs hb;exact bM _ _ _ i.size (by rw[hi];rfl) b off T cs hx hb h.1.1 h.1.2.1 h.1.2.2 h.2
    ·exact h.elim
   ·rename_i b gen j hx
    split at h
    ·rename_i E s gen' n xs hb;obtain⟨⟨rfl,h1,h2,h3⟩,h⟩:=h;exact dR _ _ _ i.size (by rw[hi];rfl) b _ j E s n xs hx hb h1 h2 h3 h
    ·exact h.elim
   ·exact h.elim
  ·cases ht
 ·-- nilCheck
  injection ht with ht;subst ht
  simp only[Ai] at h
  split at h
  ·rename_i b o hx;exact LF _ (by rw[hx];exact h) (.inl ⟨b,o,hx⟩)
  ·rename_i xs j hx;exact LF _ (by rw[hx];exact h) (.inr (.inl ⟨xs,j,hx⟩))
  ·rename_i f fs cs hx;exact LF _ (by rw[hx];exact h) (.inr (.inr (.inl ⟨f,fs,cs,hx⟩)))
  ·rename_i b gen j hx;exact LF _ (by rw[hx];exact h) (.inr (.inr (.inr ⟨b,gen,j,hx⟩)))
  ·exact h.elim
 ·-- binOp
  rename_i op T x y T'
  split at ht
  ·rename_i hu
   split at ht
   ·injection ht with ht;subst ht
    simp only[Ai,Bool.false_eq_true,if_false] at h
    split at h
    ·rename_i l m hx hy;exact QU .eql T T' x y l m _ hu hx hy (.inl ⟨rfl,rfl⟩) h
    ·exact h.elim
   ·injection ht with ht;subst ht
    simp only[Ai,if_true] at h
    split at h
    ·rename_i l m hx hy;exact QU .neq T T' x y l m _ hu hx hy (.inr ⟨rfl,rfl⟩) h
    ·exact h.elim
   ·cases ht
  ·rename_i fs hu
   split at ht
   ·rename_i et het
    split at ht
    ·rename_i hg
     split at ht
     ·injection ht with ht;subst ht
      simp only[Ai,Bool.false_eq_true,if_false] at h
      split at h
      ·rename_i xs ys hx hy
       split at h
       ·rename_i r hr;exact QV .eql T T' x y et xs ys r _ het hg hx hy hr (.inl ⟨rfl,rfl⟩) h
       ·exact h.elim
      ·exact h.elim
     ·injection ht with ht;subst ht
      simp only[Ai,if_true] at h
      split at h
      ·rename_i xs ys hx hy
       split at h
       ·rename_i r hr;exact QV .neq T T' x y et xs ys r _ het hg hx hy hr (.inr ⟨rfl,rfl⟩) h
       ·exact h.elim
      ·exact h.elim
     ·cases ht
    ·cases ht
   ·cases ht
  ·injection ht with ht;subst ht
   exact qT op T T' x y h
 ·injection ht with ht;subst ht
  simp only[Ai] at h
  split at h
  ·rename_i t hx;exact sN _ _ t hx h
  ·exact h.elim
 ·injection ht with ht;subst ht
  simp only[Ai] at h
  split at h
  ·rename_i k n hx;exact sM _ _ k n hx (Kh h)
  ·exact h.elim
 ·-- convert
  split at ht
  ·rename_i hs hu;injection ht with ht;subst ht
   simp only[Ai] at h
   split at h
   ·rename_i l hx;exact sI _ _ _ l hs hu hx h
   ·exact h.elim
  ·rename_i e hs hu
   split at ht
   ·rename_i he;injection ht with ht;subst ht
    simp only[Ai] at h
    split at h
    ·rename_i b gen hx
     split at h
     ·rename_i E sz gen' n xs hb;obtain⟨⟨rfl,rfl⟩,l,rfl,h⟩:=h;exact LK _ _ _ e l hs he hu (.inl ⟨b,gen',E,n,hx,hb⟩) h
     ·exact h.elim
    ·rename_i n xs hx;obtain⟨l,⟨rfl,hn⟩,h⟩:=h;exact LK _ _ _ e l hs he hu (.inr (.inl ⟨n,hx,hn⟩)) h
    ·rename_i hx;exact LK _ _ _ e [] hs he hu (.inr (.inr (.inl ⟨hx,rfl⟩))) h
    ·rename_i b off n hx
     split at h
     ·rename_i T cs hb;obtain⟨l,⟨h1,h2⟩,h⟩:=h;exact LK _ _ _ e l hs he hu (.inr (.inr (.inr ⟨b,off,n,T,cs,hx,hb,h1,h2⟩))) h
     ·exact h.elim
    ·exact h.elim
   ·cases ht
  ·rename_i d k hs hu;injection ht with ht;subst ht
   simp only[Ai] at h
   split at h
   ·rename_i j n hx;exact sH _ _ _ k j n (by rw[hs];rfl) hu hx h
   ·exact h.elim
  ·cases ht
 ·-- slice
  split at ht
  ·rename_i hu;injection ht with ht;subst ht
   simp only[Ai,aT] at h
   split at h
   ·rename_i l hx
    split at h
    ·rename_i i j hlo hhi;exact YV _ _ _ _ l i j hu hx hlo hhi h.1.1 h.1.2.1 h.1.2.2 h.2
    ·exact h.elim
   ·exact h.elim
  ·rename_i e hu
   split at ht
   ·rename_i hi' i hi;injection ht with ht;subst ht
    simp only[Ai] at h
    split at h
    ·rename_i n xs k j hx hj;exact YS _ _ _ e i hu hi n xs k j hx hj h.1.1 h.1.2 h.2
    ·rename_i k j hx hj;obtain⟨rfl,h⟩:=h;exact YT _ _ _ e i hu hi k hx hj h
    ·rename_i b gen k j hx hj
     split at h
     ·rename_i E s gen' n xs hb;obtain⟨⟨rfl,rfl,h1,h2⟩,h⟩:=h;exact YW _ _ _ e i hu hi b _ n E xs k j hx hb hj h1 h2 h
     ·exact h.elim
    ·exact h.elim
   ·cases ht
  ·cases ht
 ·-- fieldAddr
  split at ht
  ·rename_i fs hu
   split at ht
   ·rename_i f hf
    split at ht
    ·rename_i i hi
     split at ht
     ·cases ht
     ·rename_i h0;injection ht with ht;subst ht
      simp only[Ai] at h
      split at h
      ·rename_i b o hx;exact NI _ _ _ fs f i.size _ hu hf (by rw[hi];rfl) h0 (.inl ⟨b,o,hx,rfl⟩) h
      ·rename_i xs j hx;exact NI _ _ _ fs f i.size _ hu hf (by rw[hi];rfl) h0 (.inr (.inl ⟨xs,j,hx,rfl⟩)) h
      ·rename_i b gen j hx;exact NI _ _ _ fs f i.size _ hu hf (by rw[hi];rfl) h0 (.inr (.inr ⟨b,gen,j,hx,rfl⟩)) h
      ·exact h.elim
    ·cases ht
   ·cases ht
  ·cases ht
 ·-- field
  split at ht
  ·rename_i fs hu
   split at ht
   ·rename_i f hf
    split at ht
    ·rename_i d i hd hi
     split at ht
     ·rename_i hr;injection ht with ht;subst ht
      simp only[Ai] at h
      split at h
      ·rename_i cs hx;exact YL _ _ _ fs f d i.size cs hu hf hd hr (by rw[hi];rfl) hx h
      ·exact h.elim
     ·rename_i hr;injection ht with ht;subst ht
      simp only[Ai] at h
      split at h
      ·rename_i cs hx
       split at h
       ·rename_i v hv;exact YK _ _ _ fs f d cs v hu hf hd (by simpa using hr) hx hv h
       ·exact h.elim
      ·exact h.elim
    ·cases ht
   ·cases ht
  ·cases ht
 ·-- indexAddr
  split at ht
  ·rename_i e hu
   split at ht
   ·rename_i i hi
    split at ht
    ·cases ht
    ·rename_i h0;injection ht with ht;subst ht
     simp only[Ai] at h
     split at h
     ·rename_i n xs k j hx hy;exact sJ _ _ _ e i.size n xs k j hu (by rw[hi];rfl) hx hy h.1.1 h.1.2.1 h.1.2.2 (by omega) h.2
     ·rename_i b gen k j hx hy
      split at h
      ·rename_i E s gen' n xs hb;obtain⟨⟨rfl,rfl,h1,h2⟩,h⟩:=h;exact YN _ _ _ e i.size n b _ E xs k j hu (by rw[hi];rfl) hx hb hy h1 h2 h
      ·exact h.elim
     ·exact h.elim
   ·cases ht
  ·rename_i len e hu
   split at ht
   ·rename_i i hi
    split at ht
    ·cases ht
    ·rename_i h0;injection ht with ht;subst ht
     simp only[Ai] at h
     split at h
     ·rename_i b off k j hx hy;exact YM _ _ _ e i.size len b off k j hu (by rw[hi];rfl) hx hy h.1.1 h.1.2 (by omega) h.2
     ·exact h.elim
   ·cases ht
  ·cases ht
 ·-- index
  split at ht
  ·rename_i hu;injection ht with ht;subst ht
   simp only[Ai] at h
   split at h
   ·rename_i l k n hx hy;exact sK _ _ _ l k n hu hx hy h.1.1 h.1.2 h.2
   ·exact h.elim
  ·cases ht
 ·injection ht with ht;subst ht
  simp only[Ai] at h
  split at h
  ·rename_i vs hx
   split at h
   ·rename_i v hv;exact gX _ _ vs v hx hv h
   ·exact h.elim
  ·exact h.elim
 ·injection ht with ht;subst ht
  refine iU _ _ _ ?_;simpa[Ai,Function.comp_def] using h
 ·-- makeSlice
  split at ht
  ·rename_i e hu
   split at ht
   ·rename_i i hi
    split at ht
    ·rename_i z hz;injection ht with ht;subst ht
     simp only[Ai] at h
     split at h
     ·rename_i kl l kc c hx hy;obtain⟨⟨rfl,h0,h1,h2⟩,h⟩:=h;exact sL _ _ _ e i _ hu hi (by assumption) kl kc c hx hy h0 h1 h2 h
     ·exact h.elim
    ·cases ht
   ·cases ht
  ·cases ht
 ·-- call
  rename_i c;obtain⟨callee,args,ats⟩:=c
  split at ht
  ·rename_i f hc;simp only at hc;subst hc
   split at ht
   ·rename_i fn hf
    split at ht
    ·rename_i hb;injection ht with ht;subst ht
     refine Tn f args ats _ [] [] rfl fn hf hb.1 hb.2 ?_;simpa[Ai,Function.comp_def] using h
    ·cases ht
   ·cases ht
  ·rename_i t hc;simp only at hc;subst hc;injection ht with ht;subst ht
   simp only[Ai] at h
   split at h
   ·rename_i f fs cs hx;obtain⟨⟨fn,hf,hb,hn⟩,h⟩:=h;refine Tn f args ats _ fs cs hx fn hf hb hn ?_;simpa[Function.comp_def] using h
   ·exact h.elim
  ·rename_i hc;simp only at hc;subst hc
   split at ht
   ·rename_i x T hargs hats;have ea:args=#[x]:=by apply Array.ext';simpa using hargs
    have et:ats=#[T]:=by apply Array.ext';simpa using hats
    subst ea et
    split at ht
    ·rename_i hu;injection ht with ht;subst ht
     simp only[Ai] at h
     split at h
     ·rename_i l hx;exact YO T _ x l hu hx h
     ·exact h.elim
    ·rename_i e hu;injection ht with ht;subst ht
     simp only[Ai] at h
     split at h
     ·rename_i n xs hx;exact LL T _ x e n hu (.inl ⟨xs,hx⟩) h
     ·rename_i hx;exact LL T _ x e 0 hu (.inr (.inl ⟨hx,rfl⟩)) h
     ·rename_i z hx;exact LL T _ x e 0 hu (.inr (.inr (.inl ⟨z,hx,rfl⟩))) h
     ·rename_i b gen hx
      split at h
      ·rename_i E sz gen' n xs hb;obtain⟨rfl,h⟩:=h;exact LL T _ x e n hu (.inr (.inr (.inr ⟨b,gen',E,sz,xs,hx,hb⟩))) h
      ·exact h.elim
     ·exact h.elim
    ·cases ht
   ·cases ht
  ·rename_i hc;simp only at hc;subst hc
   split at ht
   ·rename_i x y T U hargs hats;have ea:args=#[x,y]:=by apply Array.ext';simpa using hargs
    have et:ats=#[T,U]:=by apply Array.ext';simpa using hats
    subst ea et
    split at ht
    ·rename_i e hu
     split at ht
     ·rename_i i hi
      split at ht
      ·rename_i z hz
       split at ht
       ·rename_i hTU;subst hTU
        split at ht
        ·rename_i hzs;injection ht with ht;subst ht
         simp only[Ai] at h
         split at h
         ·rename_i m ys hy
          split at h
          ·rename_i b gen hx
           split at h
           ·rename_i E' sz' gen' n xs hb;obtain⟨⟨⟨rfl,rfl,rfl⟩,h1,h2,h3⟩,h⟩:=h;exact sD T _ x y _ i z hu hi hz hzs.1 hzs.2 b gen' n m xs ys hx hb hy h1 h2 h3 h
           ·exact h.elim
          ·rename_i hx;exact Y9 T _ x y _ i z hu hi hz hzs.1 hzs.2 m ys hx hy h.1.1 h.1.2.1 h.1.2.2 h.2
          ·exact h.elim
         ·exact h.elim
        ·cases ht
       ·split at ht
        ·rename_i hus
         split at ht
         ·rename_i h11;injection ht with ht;subst ht
          simp only[Ai] at h
          split at h
          ·rename_i l hy
           split at h
           ·rename_i b gen hx
            split at h
            ·rename_i E' sz' gen' n xs hb;obtain⟨⟨⟨rfl,rfl,rfl⟩,h1⟩,h⟩:=h;exact Za T U _ x y _ i hu hus hi hz h11.1 h11.2 b gen' n xs l hx hb hy h1 h
            ·exact h.elim
           ·rename_i hx;exact bH T U _ x y _ i hu hus hi hz h11.1 h11.2 l hx hy h.1 h.2
           ·exact h.elim
          ·exact h.elim
         ·cases ht
        ·cases ht
      ·cases ht
     ·cases ht
    ·cases ht
   ·cases ht
  ·cases ht
 ·cases ht
theorem ID (o:Op) (so:SOp) (ht:Ji P o=some so) (h:Ai P so objs tm K):AH P C o type objs tm K:=by
 unfold Ji at ht
 split at ht
 ·rename_i q xs hq;injection ht with ht;subst ht
  simp only[Ai] at h
  split at h
  ·rename_i v hv;exact rA o q xs v hq hv h
  ·exact h.elim
 ·exact Zk o so ht h
end
structure SO where
 dst:Option Nat
 op:SOp
 gd:Option (Nat×Bool)
@[reducible] def SO.o (d:Nat) (op:SOp):SO:=⟨some d,op,none⟩
@[reducible] def SO.m (d x:Nat):SO:=⟨some d,.mv (.t x),none⟩
@[reducible] def SO.n (d:Nat) (z:Int):SO:=⟨some d,.mv (.c (.i .i64 z)),none⟩
@[reducible] def SO.z (d:Nat):SO:=⟨some d,.mv (.c (.s [])),none⟩
@[reducible] def SO.e (d x k:Nat):SO:=⟨some d,.ext (.t x) k,none⟩
@[reducible] def SO.l (d x:Nat):SO:=⟨some d,.load1 (.t x),none⟩
@[reducible] def SO.w (d sz x:Nat):SO:=⟨some d,.loadn sz (.t x),none⟩
@[reducible] def SO.s (sz x y:Nat):SO:=⟨none,.store sz (.t x) (.t y),none⟩
@[reducible] def SO.f (d off x:Nat):SO:=⟨some d,.fad off (.t x),none⟩
@[reducible] def SO.c (d f:Nat) (l:List SV):SO:=⟨some d,.call f l,none⟩
@[reducible] def SO.b (d:Nat) (op:BinOp) (x y:Nat):SO:=⟨some d,.bin op (.t x) (.t y),none⟩
@[reducible] def SO.k (d:Nat) (op:BinOp) (x:Nat) (z:Int):SO:=⟨some d,.bin op (.t x) (.c (.i .i64 z)),none⟩
@[reducible] def SO.h (d x:Nat):SO:=⟨some d,.lens (.t x),none⟩
@[reducible] def SO.p (d x y:Nat):SO:=⟨some d,.pick (.t x) (.c (.b true)) (.t y),none⟩
def AS (tm:List AV):Option Nat->AV->List AV
 | none,_=>tm
 | some d,v=>tm.set d v
theorem H8 {G:Gh} {I:Al} {tm:List AV} {a:Act} {v:AV} {y:Value} (h:Ad G I tm a.tmps.toList) (hv:Ab G I v y) (dst:Option Nat):Ad G I (AS tm dst v) (a.put dst y).tmps.toList:=by
 cases dst with
 | none=>exact h
 | some d=>simp only[AS,Act.put,Array.toList_setIfInBounds];exact Ad.set d h hv
theorem Ie (a:Act) (dst:Option Nat) (y:Value):(a.put dst y).defers=a.defers:=by cases dst<;>rfl
def Aw (P:Program) [Tabs P]:List SO->List OB->List AV->(List OB->List AV->Prop)->Prop
 | [],objs,tm,K=>K objs tm
 | ⟨dst,op,none⟩::r,objs,tm,K=>Ai P op objs tm fun objs' v=>Aw P r objs' (AS tm dst v) K
 | ⟨dst,op,some (t,want)⟩::r,objs,tm,K=>
  match (tm[t]?).getD .u with
  | .b x=>(x=want->Ai P op objs (tm.set t (.b want)) fun objs' v=>Aw P r objs' (AS (tm.set t (.b want)) dst v) K)/\(x=!want->Aw P r objs (AS (tm.set t (.b (!want))) dst (.o undef)) K)
  | .o (.tuple vs)=>Aw P r objs (AS tm dst (.o undef)) K
  | _=>False
def R7 (ops:List Oper):Option Nat->Bool
 | none=>false
 | some d=>ops.any fun o=>match o.op with
  | .assign (.tmp t)=>t==d
  | _=>false
def tR (ops:List Oper) (p:Nat):Bool:=ops.any fun o=>o.dst==some p&&match o.op with
 | .slice _ _ _ _ (some _)=>true
 | _=>false
def qR (ops:List Oper):Option Nat->Bool
 | none=>false
 | some d=>ops.any fun o=>match o.op with
  | .call c=>(match c.callee with
   | .builtin .append=>true
   | _=>false)&&match (c.args.toList.head?:Option Operand) with
    | some (.tmp t)=>t==d
    | _=>false
  | _=>false
def pV (ops:List Oper) (p:Nat):Bool:=ops.any fun o=>o.dst==some p&&match o.op with
 | .buildSlice _ len _=>decide (0<len)
 | _=>false
def Zq (ops:List Oper):Bool:=decide ((ops.filter fun o=>R7 ops o.dst&&match o.op with
 | .buildSlice ..=>true
 | _=>false).length<=1)
def YE (ops:List Oper) (e:TypeId):Option Nat->Bool
 | none=>false
 | some d=>(ops.any fun o=>match o.op with
  | .build t parts=>t==e&&parts.any fun p=>match p.2 with
   | .tmp x=>x==d
   | _=>false
  | _=>false)&&ops.any fun o=>match o.op with
   | .alloc t=>t==e
   | _=>false
def Lq (P:Program) (ops:List Oper) (o:Oper) (so:SOp):SOp :=
 match so,o.op with
 | .bslice len z ps,.buildSlice t _ _=>match P.underlying t with
  | some (.slice e)=>match P.info? e with
   | some ie=>if (qR ops o.dst&&decide (0<len))=true then .pu (.lit len z (ps.map fun p=>(p.1,p.2.1))) (ps.map fun p=>p.2.2)
    else if (R7 ops o.dst&&Zq ops||YE ops e o.dst)=true then .bslo e ie.size len z ps else .bslice len z ps
   | none=>.bslice len z ps
  | _=>.bslice len z ps
 | .app E sz by' x y,.call c=>match c.callee with
  | .builtin .append=>match x with
   | .t p=>if tR ops p=true then .capp sz by' (.t p) y else if pV ops p=true then .cappo E sz by' (.t p) y else .app E sz by' (.t p) y
   | x=>.app E sz by' x y
  | _=>.app E sz by' x y
 | so,_=>so
def EI (P:Program) (ops:List Oper) (o:Oper):Option SO :=
 match Ji P o.op with
 | none=>none
 | some so=>match o.guard with
  | none=>some ⟨o.dst,Lq P ops o so,none⟩
  | some (j,want)=>match (ops[j]?).bind (·.dst) with
   | some t=>some ⟨o.dst,Lq P ops o so,some (t,want)⟩
   | none=>none
section
variable {P:Program} [Tabs P] {C:Cx} [On P C] {type:TypeId} {objs:List OB} {tm:List AV} {K:List OB->AV->Prop}
omit [On P C] in
theorem XY {args:Array Operand} {ats:Array TypeId} {E sz by':Nat} {x y:SV} (ht:Ji P (.call ⟨.builtin .append,args,ats⟩)=some (.app E sz by' x y)) (h:Ai P (.capp sz by' x y) objs tm K):AH P C (.call ⟨.builtin .append,args,ats⟩) type objs tm K:=by
 have ht0:Ge P (.call ⟨.builtin .append,args,ats⟩)=some (.app E sz by' x y):=ht;clear ht;simp only[Ge] at ht0
 split at ht0
 ·rename_i X Y T U hargs hats;have ea:args=#[X,Y]:=by apply Array.ext';simpa using hargs
  have et:ats=#[T,U]:=by apply Array.ext';simpa using hats
  subst ea et
  split at ht0
  ·rename_i e hu
   split at ht0
   ·rename_i i hi
    split at ht0
    ·rename_i z hz
     split at ht0
     ·rename_i hTU;subst hTU
      split at ht0
      ·rename_i hzs;injection ht0 with ht0
       injection ht0 with e1 e2 e3 e4 e5
       subst e1 e2 e3 e4 e5;simp only[Ai] at h
       split at h
       ·rename_i n xs m ys hx hy;obtain⟨⟨⟨h1,h2⟩,h3,h4,h5⟩,h⟩:=h;have hy':Ec objs ((Ag Y).ev tm)=some (m,ys):=fT hy;exact YJ T _ X Y _ i z hu hi hz hzs.2 n m xs ys hx hy' h2 h1 h3 h4 h5 h
       ·exact h.elim
      ·cases ht0
     ·split at ht0
      ·split at ht0<;>cases ht0
      ·cases ht0
    ·cases ht0
   ·cases ht0
  ·cases ht0
 ·cases ht0
omit [On P C] in
theorem Z3 {args:Array Operand} {ats:Array TypeId} {E sz by':Nat} {x y:SV} (ht:Ji P (.call ⟨.builtin .append,args,ats⟩)=some (.app E sz by' x y)) (h:Ai P (.cappo E sz by' x y) objs tm K):AH P C (.call ⟨.builtin .append,args,ats⟩) type objs tm K:=by
 have ht0:Ge P (.call ⟨.builtin .append,args,ats⟩)=some (.app E sz by' x y):=ht;clear ht;simp only[Ge] at ht0
 split at ht0
 ·rename_i X Y T U hargs hats;have ea:args=#[X,Y]:=by apply Array.ext';simpa using hargs
  have et:ats=#[T,U]:=by apply Array.ext';simpa using hats
  subst ea et
  split at ht0
  ·rename_i e hu
   split at ht0
   ·rename_i i hi
    split at ht0
    ·rename_i z hz
     split at ht0
     ·rename_i hTU;subst hTU
      split at ht0
      ·rename_i hzs;injection ht0 with ht0
       injection ht0 with e1 e2 e3 e4 e5
       subst e1 e2 e3 e4 e5;simp only[Ai] at h
       split at h
       ·rename_i n xs m ys hx hy;obtain⟨⟨⟨h1,h2⟩,h3,h4,h5⟩,h⟩:=h;have hy':Ec objs ((Ag Y).ev tm)=some (m,ys):=hy;exact bJ T _ X Y _ i z hu hi hz hzs.1 hzs.2 n m xs ys hx hy' h2 h1 h3 h4 h5 h
       ·exact h.elim
      ·cases ht0
     ·split at ht0
      ·split at ht0<;>cases ht0
      ·cases ht0
    ·cases ht0
   ·cases ht0
  ·cases ht0
 ·cases ht0
theorem Si (tm:List AV):∀ps:List (Nat×Nat×SV),Hv (ps.map fun p=>(p.1,p.2.1)) ((ps.map fun p=>p.2.2).map fun x=>x.ev tm)=ps.map fun p=>(p.1,p.2.1,p.2.2.ev tm)
 | []=>rfl
 | (a,b,c)::ps=>by simp only[zl,Hv,Si tm ps]
theorem LV (ops:List Oper) (o:Oper) (so:SOp) (ht:Ji P o.op=some so) (h:Ai P (Lq P ops o so) objs tm K):AH P C o.op type objs tm K:=by
 unfold Lq at h
 split at h
 ·rename_i len z ps t ln parts ho
  split at h
  ·rename_i e hu
   split at h
   ·rename_i ie hie
    split at h
    ·rw[ho] at ht ⊢;have ht0:Ge P (.buildSlice t ln parts)=some (.bslice len z ps):=ht;simp only[Ge,hu,hie] at ht0
     split at ht0
     ·rename_i z' ps' hz hps
      split at ht0
      ·rename_i h1;injection ht0 with ht0
       injection ht0 with e1 e2 e3
       subst e1 e2 e3;simp only[Ai,pq,Si] at h
       split at h
       ·rename_i v hv;obtain⟨cs,hf,rfl⟩:=xt.1 hv;exact YG _ e _ _ ie z' hu hie hz h1.1.1 h1.1.2 _ rfl h1.2 ps' hps cs hf h
       ·exact h.elim
      ·split at ht0<;>cases ht0
     ·cases ht0
    split at h
    ·rw[ho] at ht ⊢;have ht0:Ge P (.buildSlice t ln parts)=some (.bslice len z ps):=ht;simp only[Ge,hu,hie] at ht0
     split at ht0
     ·rename_i z' ps' hz hps
      split at ht0
      ·rename_i h1;injection ht0 with ht0
       injection ht0 with e1 e2 e3
       subst e1 e2 e3;simp only[Ai] at h
       split at h
       ·rename_i cs hf;exact YI _ e _ _ ie z' hu hie hz h1.1.1 h1.1.2 _ rfl h1.2 ps' hps cs hf h.1 h.2
       ·exact h.elim
      ·split at ht0<;>cases ht0
     ·cases ht0
    ·exact ID o.op _ ht h
   ·exact ID o.op _ ht h
  ·exact ID o.op _ ht h
 ·rename_i E sz by' x y c ho;rw[ho] at ht ⊢
  split at h
  ·rename_i hc;obtain⟨callee,args,ats⟩:=c;dsimp only at hc;subst hc
   split at h
   ·split at h
    ·exact XY ht h
    ·split at h
     ·exact Z3 ht h
     ·exact ID _ _ ht h
   ·exact ID _ _ ht h
  ·exact ID _ _ ht h
 ·exact ID o.op _ ht h
end
theorem Ad.set_same {G:Gh} {I:Al} {tm:List AV} {ys:List Value} (t:Nat) (x:AV) (h:Ad G I tm ys) (hx:∀y,ys[t]? = some y->Ab G I x y):Ad G I (tm.set t x) ys:=by
 rcases zx t tm.length with hl|hl
 ·have hl2:t<ys.length:=by rw[<-h.length];exact hl
  have hy:ys[t]? = some ys[t]:=zk hl2;have:=Ad.set t h (hx _ hy)
  rwa [List.set_getElem_self] at this
 ·rw[List.set_eq_of_length_le hl];exact h
section
variable {P:Program} [Tabs P] {C:Cx} [On P C] {K:Bp}
theorem TC (ops:Array Oper) (o:Oper) (so0 so:SO) (hd0:so.dst=so0.dst) (hg0:so.gd=so0.gd) (hcv:∀objs tm K,Ai P so.op objs tm K->Ai P so0.op objs tm K) (rest:List SO) (objs:List OB) (tm:List AV) (K':List OB->List AV->Prop) (N:Act->World->Prop) (Q:Exit->Act->World->Prop) (h1:EI P ops.toList o=some so0) (h:Aw P (so::rest) objs tm K') (a:Act) (w:World) (hr:Eo C objs tm a w)
  (hN:∀objs tm a w,Aw P rest objs tm K'->Eo C objs tm a w->N a w):if Region.wanted o (yielded ops a.tmps) then o.wp P a w N Q else N (a.put o.dst undef) w:=by
 obtain⟨d1,op1,g1⟩:=so;dsimp only at hd0 hg0 hcv;subst hd0 hg0;unfold EI at h1
 split at h1
 ·cases h1
 ·rename_i op hop;obtain⟨G,I,hin,hm,hd,hdef⟩:=hr
  split at h1
  ·rename_i hg;injection h1 with h1;subst h1
   dsimp only at h hcv ⊢;simp only[Aw] at h;rw[if_pos (by simp[Region.wanted,hg])];refine LV (C:=C) (type:=o.type) ops.toList o op hop (hcv _ _ _ h) G I a w hin hm hd o _ _ rfl rfl ?_;intro objs' v y G' I' w' hk l1 l2 l3 l4 l5;exact hN objs' _ _ _ hk ⟨G',I',l3,l4,H8 (Ad.mono l1 l2 _ _ hd) l5 o.dst,by rw[Ie];exact hdef⟩
  ·rename_i j want hg
   split at h1
   ·rename_i t hj;injection h1 with h1;subst h1
    dsimp only at h hcv ⊢;have hj':(ops[j]?).bind (·.dst)=some t:=by simpa using hj
    simp only[Aw] at h;have hval:∀v,tm[t]? = some v->∃y,a.tmps[t]? = some y/\Ab G I v y:=by
     intro v hv;obtain⟨y,h3,h4⟩:=Ad.get t hd hv;exact⟨y,by simpa using h3,h4⟩
    cases htm:tm[t]? with
    | none=>rw[htm] at h;exact h.elim
    | some v=>
     rw[htm] at h;obtain⟨y,hy,hyd⟩:=hval v htm;have hyl:a.tmps.toList[t]? = some y:=by simpa using hy
     simp only[qx] at h
     split at h
     ·rename_i x;simp only[Ab] at hyd;subst hyd;have hyi:yielded ops a.tmps j=some x:=by simp[yielded,hj',hy]
      have hset:∀b,x=b->Ad G I (tm.set t (.b b)) a.tmps.toList:=by
       rintro b rfl;exact Ad.set_same t _ hd (fun y' hy'=>by rw[hyl] at hy';injection hy' with hy';subst hy';simp[Ab])
      by_cases hx:x=want
      ·rw[if_pos (by simp[Region.wanted,hg,hyi,hx])];refine LV (C:=C) (type:=o.type) ops.toList o op hop (hcv _ _ _ (h.1 hx)) G I a w hin hm (hset _ hx) o _ _ rfl rfl ?_;intro objs' v y G' I' w' hk l1 l2 l3 l4 l5;exact hN objs' _ _ _ hk ⟨G',I',l3,l4,H8 (Ad.mono l1 l2 _ _ (hset _ hx)) l5 o.dst,by rw[Ie];exact hdef⟩
      ·have hx':x=!want:=by cases x<;>cases want<;>first|rfl|exact absurd rfl hx
       rw[if_neg (by simp[Region.wanted,hg,hyi,hx])];exact hN objs _ _ _ (h.2 hx') ⟨G,I,hin,hm,H8 (hset _ hx') (by simp[Ab]) o.dst,by rw[Ie];exact hdef⟩
     ·rename_i vs;simp only[Ab] at hyd;subst hyd;have hyi:yielded ops a.tmps j=none:=by simp[yielded,hj',hy]
      rw[if_neg (by simp[Region.wanted,hg,hyi])];exact hN objs _ _ _ h ⟨G,I,hin,hm,H8 hd (by simp[Ab]) o.dst,by rw[Ie];exact hdef⟩
     ·exact h.elim
   ·cases h1
theorem Ru (ops:Array Oper):∀(l:List Oper) (sos:List SO) (objs:List OB) (tm:List AV),l.mapM (EI P ops.toList)=some sos->Aw P sos objs tm (fun o t=>K .normal o t)->∀a w,Eo C objs tm a w->wpList P ops (CJ C K) l a w
 | [],sos,objs,tm,ht,h,a,w,hr=>by
  simp at ht;subst ht;exact⟨objs,tm,h,hr⟩
 | o::l,sos,objs,tm,ht,h,a,w,hr=>by
  simp only[List.mapM_cons,Option.bind_eq_bind,Option.pure_def] at ht
  cases h1:EI P ops.toList o with
  | none=>simp[h1] at ht
  | some so=>
   cases h2:l.mapM (EI P ops.toList) with
   | none=>simp[h1,h2] at ht
   | some rest=>
    simp[h1,h2] at ht;subst ht;have:=TC ops o so so rfl rfl (fun _ _ _ h=>h) rest objs tm _ (wpList P ops (CJ C K) l) (CJ C K) h1 h a w hr (fun objs tm a w hk hr=>Ru ops l rest objs tm h2 hk a w hr);unfold wpList
    split
    ·rename_i hw;rw[if_pos hw] at this;exact .inl this
    ·rename_i hw;rw[if_neg hw] at this;exact this
end
def SOp.svs:SOp->List SV
 | .mv x=>[x]
 | .pick c x y=>[c,x,y]
 | .alloc _ _=>[]
 | .mkm0=>[]
 | .mkm1 x=>[x]
 | .lk _ _ x y=>[x,y]
 | .mup x y v=>[x,y,v]
 | .mph _ _ x y v=>[x,y,v]
 | .box _ x=>[x]
 | .build _ ps=>ps.map (·.2.2)
 | .bslice _ _ ps=>ps.map (·.2.2)
 | .bslo _ _ _ _ ps=>ps.map (·.2.2)
 | .load1 x | .loadn _ x | .nck x | .not x | .neg x | .cvi _ x | .cvs x | .cvbs x | .fad _ x | .fld1 _ x | .fldn _ _ x | .ext x _ | .lens x | .lenr x=>[x]
 | .store _ x y | .bin _ x y | .beq _ x y | .eqs _ _ x y | .iad _ x y | .iada _ _ x y | .iadr _ x y | .idx x y | .app _ _ _ x y | .apps _ x y | .mks _ _ _ x y | .trn _ x y | .capp _ _ x y | .cappo _ _ _ x y=>[x,y]
 | .mkz _ _ _ _ x=>[x]
 | .slcs x lo hi=>x::lo.toList++hi.toList
 | .call _ args=>args
 | .pcall _ args=>args
 | .callv x args=>x::args
 | .inv _ x args=>x::args
 | .mkf _ fs cs=>fs++cs
 | .pu _ xs=>xs
theorem ML {tm tm':List AV} {l:List SV} (h:∀x∈l,x.ev tm=x.ev tm'):l.map (fun x=>x.ev tm)=l.map (fun x=>x.ev tm'):=List.map_congr_left h
theorem bX {tm tm':List AV} {l:List (Nat×Nat×SV)} (h:∀x∈l.map (·.2.2),x.ev tm=x.ev tm'):l.map (fun p=>(p.1,p.2.1,p.2.2.ev tm))=l.map (fun p=>(p.1,p.2.1,p.2.2.ev tm')) :=
 List.map_congr_left fun p hp=>by rw[h p.2.2 (ya hp)]
theorem UT {tm tm':List AV} (d:Int) (o:Option SV) (h:∀x∈o.toList,x.ev tm=x.ev tm'):Hw tm d o=Hw tm' d o:=by
 cases o with
 | none=>rfl
 | some x=>simp only[Hw,h x (by simp)]
theorem I3 {P:Program} [Tabs P] {so:SOp} {objs:List OB} {tm tm':List AV} {K:List OB->AV->Prop} (h:∀x∈so.svs,x.ev tm=x.ev tm'):Ai P so objs tm K=Ai P so objs tm' K:=by
 cases so<;>simp only[SOp.svs,zv,List.not_mem_nil,or_false,forall_eq_or_imp,forall_eq,ja,qo] at h<;>first
  | (simp only[Ai,h];done)
  | (simp only[Ai];rw[bX h];done)
  | (simp only[Ai];rw[ML h];done)
  | (simp only[Ai,h.1];rw[ML h.2];done)
  | (simp only[Ai];rw[ML (fun x hx=>h x (xi _ hx)),ML (fun x hx=>h x (xo _ hx))];done)
  | (have e1:=fun d=>UT (tm:=tm) (tm':=tm') d _ (fun x hx=>h.2 x (xi _ hx));have e2:=fun d=>UT (tm:=tm) (tm':=tm') d _ (fun x hx=>h.2 x (xo _ hx));simp only[Ai,h.1,e1,e2];done)
  | rfl
  | skip
def SOp.calm:SOp->Bool
 | .alloc .. | .box .. | .bslo .. | .store .. | .app .. | .cappo .. | .apps .. | .mks .. | .mkz .. | .trn .. | .mkm0 | .mkm1 .. | .mup .. | .mph ..=>false
 | _=>true
def SOp.isCall:SOp->Bool
 | .call .. | .pcall .. | .callv .. | .inv ..=>true
 | _=>false
theorem Id {P:Program} [Tabs P] {so:SOp} {objs:List OB} {tm:List AV} {W:List OB->AV->Prop} (hc:so.calm=true) (hn:so.isCall=false) (h:Ai P so objs tm W):∃v,(∀K:List OB->AV->Prop,K objs v->Ai P so objs tm K)/\W objs v:=by
 cases so<;>simp only[SOp.calm,SOp.isCall,reduceCtorEq] at hc hn<;>simp only[Ai] at h ⊢
 case pick c x y=>
  split at h
  ·rename_i t _
   cases t
   ·exact⟨_,fun K hk=>⟨fun e=>absurd e Bool.false_ne_true,fun _=>hk⟩,h.2 rfl⟩
   ·exact⟨_,fun K hk=>⟨fun _=>hk,fun e=>absurd e.symm Bool.false_ne_true⟩,h.1 rfl⟩
  ·exact h.elim
 case load1 x=>
  split at h
  ·split at h
   ·split at h
    ·exact⟨_,fun K hk=>hk,h⟩
    ·exact h.elim
   ·exact h.elim
  ·obtain⟨v,h1,h2⟩:=h;exact⟨v,fun K hk=>⟨v,h1,hk⟩,h2⟩
  ·split at h
   ·obtain⟨h0,v,h1,h2⟩:=h;exact⟨v,fun K hk=>⟨h0,v,h1,hk⟩,h2⟩
   ·exact h.elim
  ·exact h.elim
 case cvbs x=>
  split at h
  ·split at h
   ·obtain⟨h0,l,h1,h2⟩:=h;exact⟨_,fun K hk=>⟨h0,l,h1,hk⟩,h2⟩
   ·exact h.elim
  ·obtain⟨l,h1,h2⟩:=h;exact⟨_,fun K hk=>⟨l,h1,hk⟩,h2⟩
  ·exact⟨_,fun K hk=>hk,h⟩
  ·split at h
   ·obtain⟨l,h1,h2⟩:=h;exact⟨_,fun K hk=>⟨l,h1,hk⟩,h2⟩
   ·exact h.elim
  ·exact h.elim
 case bin op x y=>
  unfold Gy at h;unfold Gy
  split at h
  ·obtain⟨hk,h⟩:=h;subst hk;have key:∀(k:IntKind) (r:Int),Fe k r (fun r=>W objs (.i k r))->∃v,(∀K:List OB->AV->Prop,K objs v->Fe k r fun r=>K objs (.i k r))/\W objs v:=by
    intro k r h
    cases k<;>simp only[Fe] at h ⊢<;>first|exact⟨_,fun K hk=>⟨h.1,hk⟩,h.2⟩|exact⟨_,fun K hk=>hk,h⟩
   split at h
   ·obtain⟨v,h1,h2⟩:=key _ _ h;exact⟨v,fun K hk=>⟨rfl,h1 K hk⟩,h2⟩
   ·obtain⟨v,h1,h2⟩:=key _ _ h;exact⟨v,fun K hk=>⟨rfl,h1 K hk⟩,h2⟩
   ·obtain⟨v,h1,h2⟩:=key _ _ h;exact⟨v,fun K hk=>⟨rfl,h1 K hk⟩,h2⟩
   ·obtain⟨v,h1,h2⟩:=key _ _ h.2;exact⟨v,fun K hk=>⟨rfl,h.1,h1 K hk⟩,h2⟩
   ·exact⟨_,fun K hk=>⟨rfl,h.1,hk⟩,h.2⟩
   all_goals first|exact⟨_,fun K hk=>⟨rfl,hk⟩,h⟩|exact h.elim
  ·split at h
   ·exact⟨_,fun K hk=>⟨h.1,hk⟩,h.2⟩
   all_goals first|exact⟨_,fun K hk=>hk,h⟩|exact h.elim
  ·exact h.elim
 case neg x=>
  split at h
  ·rename_i k n _
   cases k<;>simp only[Fe] at h ⊢<;>first|exact⟨_,fun K hk=>⟨h.1,hk⟩,h.2⟩|exact⟨_,fun K hk=>hk,h⟩
  ·exact h.elim
 all_goals first
  | exact⟨_,fun K hk=>hk,h⟩
  | (split at h<;>first|exact⟨_,fun K hk=>hk,h⟩|exact⟨_,fun K hk=>⟨h.1,hk⟩,h.2⟩|exact h.elim|(split at h<;>first|exact⟨_,fun K hk=>hk,h⟩|exact⟨_,fun K hk=>⟨h.1,hk⟩,h.2⟩|exact h.elim))
theorem Sh {P:Program} [Tabs P] {so:SOp} {objs:List OB} {tm:List AV} {W:List OB->AV->Prop} (hc:so.calm=true) (hn:so.isCall=false) (h:Ai P so objs tm W):∃v,Ai P so objs tm (fun o x=>o=objs/\x=v)/\W objs v:=by
 obtain⟨v,h1,h2⟩:=Id hc hn h;exact⟨v,h1 _ ⟨rfl,rfl⟩,h2⟩
def SOp.touch:SOp->Bool
 | .alloc .. | .box .. | .bslo .. | .store .. | .app .. | .cappo .. | .apps .. | .mks .. | .mkz .. | .trn .. | .mkm0 | .mkm1 .. | .mup .. | .mph .. | .lk .. | .load1 .. | .loadn .. | .cvbs .. | .call .. | .callv .. | .inv .. | .lenr .. | .iad ..=>true
 | _=>false
theorem UM {so:SOp} (h:so.calm=false):so.touch=true/\so.isCall=false:=by
 cases so<;>simp[SOp.calm,SOp.touch,SOp.isCall] at h ⊢
theorem Sg {P:Program} [Tabs P] {so:SOp} {objs cur:List OB} {tm:List AV} {v:AV} (ht:so.touch=false) (h:Ai P so objs tm (fun o x=>o=objs/\x=v)):Ai P so cur tm (fun o x=>o=cur/\x=v):=by
 by_cases hn:so.isCall=true
 ·cases so<;>simp only[SOp.isCall,SOp.touch,reduceCtorEq,Bool.true_eq_false,Bool.false_eq_true] at hn ht
  case pcall f args=>
   simp only[Ai] at h ⊢;exact⟨h.1,h.2.mono fun o r h2=>⟨h2.1,by trivial,h2.2.2⟩⟩
 ·simp only[Bool.not_eq_true] at hn;have hc:so.calm=true:=by cases so<;>simp[SOp.touch,SOp.calm] at ht ⊢
  have key:∀K:List OB->AV->Prop,Ai P so objs tm K->Ai P so cur tm (fun _ x=>K objs x):=by
   intro K h
   cases so<;>simp only[SOp.touch,SOp.isCall,reduceCtorEq] at ht hn<;>exact h
  have h1:=key _ h;obtain⟨x,h2,h3⟩:=Id hc hn h1;obtain⟨_,rfl⟩:=h3;exact h2 _ ⟨rfl,rfl⟩
theorem Ul {P:Program} [Tabs P] {so:SOp} {objs:List OB} {tm:List AV} {W:List OB->AV->Prop} (hc:so.calm=false) (h:Ai P so objs tm W):∃o' v,(∀K:List OB->AV->Prop,K o' v->Ai P so objs tm K)/\W o' v:=by
 cases so<;>simp only[SOp.calm,reduceCtorEq] at hc<;>simp only[Ai] at h ⊢
 case alloc T z=>exact⟨_,_,fun K hk=>hk,h⟩
 case mkm0=>exact⟨_,_,fun K hk=>hk,h⟩
 case mkm1 x=>
  split at h
  ·exact⟨_,_,fun K hk=>hk,h⟩
  ·exact h.elim
 case mup x y v=>
  split at h
  ·split at h
   ·exact⟨_,_,fun K hk=>⟨h.1,hk⟩,h.2⟩
   ·exact h.elim
  ·exact h.elim
 case mph q z x y v=>
  split at h
  ·exact⟨_,_,fun K hk=>hk,h⟩
  ·split at h
   ·split at h
    ·exact⟨_,_,fun K hk=>⟨h.1,hk⟩,h.2⟩
    ·exact h.elim
   ·exact h.elim
  ·split at h
   ·split at h
    ·exact⟨_,_,fun K hk=>hk,h⟩
    ·exact h.elim
   ·exact h.elim
 case box T x=>exact⟨_,_,fun K hk=>⟨h.1,hk⟩,h.2⟩
 case bslo E sz len z ps=>
  split at h
  ·exact⟨_,_,fun K hk=>⟨h.1,hk⟩,h.2⟩
  ·exact h.elim
 case store sz x y=>
  split at h
  ·split at h
   ·exact⟨_,_,fun K hk=>⟨h.1,hk⟩,h.2⟩
   ·exact h.elim
  ·split at h
   ·exact⟨_,_,fun K hk=>⟨h.1,hk⟩,h.2⟩
   ·exact h.elim
  ·exact h.elim
 case trn sz x y=>
  split at h
  ·exact⟨_,_,fun K hk=>⟨h.1,hk⟩,h.2⟩
  ·exact⟨_,_,fun K hk=>⟨h.1,hk⟩,h.2⟩
  ·split at h
   ·exact⟨_,_,fun K hk=>⟨h.1,hk⟩,h.2⟩
   ·exact h.elim
  ·exact h.elim
 case app E sz by' x y=>
  split at h
  ·split at h
   ·split at h
    ·exact⟨_,_,fun K hk=>⟨h.1,hk⟩,h.2⟩
    ·exact h.elim
   ·exact⟨_,_,fun K hk=>⟨h.1,hk⟩,h.2⟩
   ·exact h.elim
  ·exact h.elim
 case cappo E sz by' x y=>
  split at h
  ·exact⟨_,_,fun K hk=>⟨h.1,hk⟩,h.2⟩
  ·exact h.elim
 case apps E x y=>
  split at h
  ·split at h
   ·split at h
    ·exact⟨_,_,fun K hk=>⟨h.1,hk⟩,h.2⟩
    ·exact h.elim
   ·exact⟨_,_,fun K hk=>⟨h.1,hk⟩,h.2⟩
   ·exact h.elim
  ·exact h.elim
 case mks E sz by' x y=>
  split at h
  ·exact⟨_,_,fun K hk=>⟨h.1,hk⟩,h.2⟩
  ·exact h.elim
 case mkz E by' kd z x=>
  split at h
  ·exact⟨_,_,fun K hk=>⟨h.1,hk⟩,h.2⟩
  ·exact h.elim
def J0 (P:Program) [Tabs P] (objs:List OB) (o:SO) (v:AV) (o':List OB) (tm:List AV):Prop :=
 (o.op.calm=true->o'=objs) /\
 match o.gd with
 | none=>Ai P o.op objs tm fun y x=>y=o'/\x=v
 | some (t,want)=>(tm[t]? = some (.b want)/\Ai P o.op objs tm fun y x=>y=o'/\x=v)\/((tm[t]? = some (.b (!want))\/∃vs,tm[t]? = some (.o (.tuple vs)))/\v=.o undef/\o'=objs)
def Ka (P:Program) [Tabs P]:List OB->List SO->List AV->List (List OB)->List AV->Prop
 | _,[],[],[],_=>True
 | objs,o::r,v::vs,o'::os,tm=>J0 P objs o v o' tm/\Ka P o' r vs os (AS tm o.dst v)
 | _,_,_,_,_=>False
def AX (p:Nat->Bool):Nat->List SO->List AV->List AV->List AV
 | k,o::r,v::vs,tm=>AX p (k+1) r vs (if p k=true then AS tm o.dst v else tm)
 | _,_,_,tm=>tm
def BS (p:Nat->Bool):Nat->List SO->List (List OB)->List OB->List OB
 | k,o::r,o'::os,cur=>BS p (k+1) r os (if (p k&&!o.op.calm)=true then o' else cur)
 | _,_,_,cur=>cur
def Cz (P:Program) [Tabs P]:List SO->List OB->List AV->(List OB->List AV->Prop)->Prop
 | [],objs,tm,K=>K objs tm
 | ⟨dst,op,none⟩::r,objs,tm,K=>
  if op.isCall=true then ∃v,Ai P op objs tm (fun o x=>o=objs/\x=v)/\Cz P r objs (AS tm dst v) K
  else Ai P op objs tm fun o v=>Cz P r o (AS tm dst v) K
 | ⟨dst,op,some (t,want)⟩::r,objs,tm,K=>
  match (tm[t]?).getD .u with
  | .b x=>(x=want->if op.isCall=true then ∃v,Ai P op objs (tm.set t (.b want)) (fun o x=>o=objs/\x=v)/\Cz P r objs (AS (tm.set t (.b want)) dst v) K
    else Ai P op objs (tm.set t (.b want)) fun o v=>Cz P r o (AS (tm.set t (.b want)) dst v) K) /\
   (x=!want->Cz P r objs (AS (tm.set t (.b (!want))) dst (.o undef)) K)
  | .o (.tuple _)=>Cz P r objs (AS tm dst (.o undef)) K
  | _=>False
theorem set_same {tm:List AV} {t:Nat} {x:AV} (h:tm[t]? = some x):tm.set t x=tm:=by
 obtain⟨hl,he⟩:=zf.1 h;rw[<-he,List.set_getElem_self]
theorem Sf {P:Program} [Tabs P] {op:SOp} {objs:List OB} {tm:List AV} {W:List OB->AV->Prop} (h:if op.isCall=true then ∃v,Ai P op objs tm (fun o x=>o=objs/\x=v)/\W objs v else Ai P op objs tm W):∃v o',(op.calm=true->o'=objs)/\Ai P op objs tm (fun o x=>o=o'/\x=v)/\W o' v:=by
 by_cases hi:op.isCall=true
 ·rw[if_pos hi] at h;obtain⟨v,h1,h2⟩:=h;exact⟨v,objs,fun _=>rfl,h1,h2⟩
 ·rw[if_neg hi] at h
  cases hc:op.calm with
  | true=>
   obtain⟨v,h1,h2⟩:=Sh hc (by simpa using hi) h;exact⟨v,objs,fun _=>rfl,h1,h2⟩
  | false=>
   obtain⟨o',v,h1,h2⟩:=Ul hc h;exact⟨v,o',(fun e=>by cases e),h1 _ ⟨rfl,rfl⟩,h2⟩
theorem KK {P:Program} [Tabs P]:∀(l:List SO) (objs:List OB) (tm:List AV) (K:List OB->List AV->Prop),Cz P l objs tm K->∃vs os,Ka P objs l vs os tm/\K (BS (fun _=>true) 0 l os objs) (AX (fun _=>true) 0 l vs tm)
 | [],objs,tm,K,h=>⟨[],[],trivial,h⟩
 | ⟨dst,op,gd⟩::r,objs,tm,K,h=>by
  have shift:∀(l:List SO) (vs tm:List AV) (k j:Nat),AX (fun _=>true) k l vs tm=AX (fun _=>true) j l vs tm:=by
   intro l
   induction l with
   | nil=>intro vs tm k j;rfl
   | cons o l ih=>
    intro vs tm k j
    cases vs with
    | nil=>rfl
    | cons v vs=>simp only[AX];exact ih vs _ _ _
  have shiftO:∀(l:List SO) (os:List (List OB)) (cur:List OB) (k j:Nat),BS (fun _=>true) k l os cur=BS (fun _=>true) j l os cur:=by
   intro l
   induction l with
   | nil=>intro os cur k j;rfl
   | cons o l ih=>
    intro os cur k j
    cases os with
    | nil=>rfl
    | cons v os=>simp only[BS];exact ih os _ _ _
  have I9:∀(o':List OB),(op.calm=true->o'=objs)->(if (true&&!op.calm)=true then o' else objs)=o':=by
   intro o' h
   cases hc:op.calm with
   | true=>simp[h hc]
   | false=>simp
  cases gd with
  | none=>
   simp only[Cz] at h;obtain⟨v,o',hco,h1,h2⟩:=Sf (W:=fun o v=>Cz P r o (AS tm dst v) K) h;obtain⟨vs,os,k1,k2⟩:=KK r _ _ K h2;refine⟨v::vs,o'::os,⟨⟨hco,h1⟩,k1⟩,?_⟩;simp only[AX,BS,if_true];rw[I9 o' hco,shift r vs _ _ 0,shiftO r os _ _ 0];exact k2
  | some g=>
   obtain⟨t,want⟩:=g;simp only[Cz] at h
   cases ht:tm[t]? with
   | none=>rw[ht] at h;exact h.elim
   | some y=>
    rw[ht] at h;simp only[qx] at h
    split at h
    ·rename_i x
     by_cases hx:x=want
     ·subst hx;have h':=h.1 rfl;rw[set_same ht] at h';obtain⟨v,o',hco,h1,h2⟩:=Sf (W:=fun o v=>Cz P r o (AS tm dst v) K) h';obtain⟨vs,os,k1,k2⟩:=KK r _ _ K h2;refine⟨v::vs,o'::os,⟨⟨hco,.inl ⟨ht,h1⟩⟩,k1⟩,?_⟩;simp only[AX,BS,if_true];rw[I9 o' hco,shift r vs _ _ 0,shiftO r os _ _ 0];exact k2
     ·have hx':x=!want:=by cases x<;>cases want<;>first|rfl|exact absurd rfl hx
      subst hx';have h':=h.2 rfl;rw[set_same ht] at h';obtain⟨vs,os,k1,k2⟩:=KK r _ _ K h';refine⟨_::vs,objs::os,⟨⟨fun _=>rfl,.inr ⟨.inl ht,rfl,rfl⟩⟩,k1⟩,?_⟩;simp only[AX,BS,if_true];rw[I9 objs (fun _=>rfl),shift r vs _ _ 0,shiftO r os _ _ 0];exact k2
    ·obtain⟨vs,os,k1,k2⟩:=KK r _ _ K h;refine⟨_::vs,objs::os,⟨⟨fun _=>rfl,.inr ⟨.inr ⟨_,ht⟩,rfl,rfl⟩⟩,k1⟩,?_⟩;simp only[AX,BS,if_true];rw[I9 objs (fun _=>rfl),shift r vs _ _ 0,shiftO r os _ _ 0];exact k2
    ·exact h.elim
theorem JO (p q:Nat->Bool):∀(l:List SO) (os:List (List OB)) (cur:List OB) (k:Nat),(∀j o,l[j]? = some o->o.op.calm=false->p (k+j)=q (k+j))->BS p k l os cur=BS q k l os cur
 | [],os,cur,k,h=>by cases os<;>rfl
 | o::r,[],cur,k,h=>rfl
 | o::r,o'::os,cur,k,h=>by
  simp only[BS];have e:(p k&&!o.op.calm)=(q k&&!o.op.calm):=by
   cases hc:o.op.calm with
   | true=>simp
   | false=>have:=h 0 o rfl hc;simp only[jj] at this;rw[this]
  rw[e];exact JO p q r os _ (k+1) (fun j o2 hj hc=>by
   have:=h (j+1) o2 (by simpa using hj) hc
   rwa [show k+1+j=k+(j+1) by omega])
theorem KF (p:Nat->Bool) (l:List SO) (os:List (List OB)) (cur:List OB) (k:Nat) (h:∀j o,l[j]? = some o->o.op.calm=false->p (k+j)=false):BS p k l os cur=cur:=by
 induction l generalizing os k with
 | nil=>cases os<;>rfl
 | cons o r ih=>
  cases os with
  | nil=>rfl
  | cons o' os=>
   simp only[BS];have e:(p k&&!o.op.calm)=false:=by
    cases hc:o.op.calm with
    | true=>simp
    | false=>have:=h 0 o rfl hc;simp only[jj] at this;simp[this]
   rw[e,if_neg Bool.false_ne_true];exact ih os (k+1) (fun j o2 hj hc=>by
    have:=h (j+1) o2 (by simpa using hj) hc
    rwa [show k+1+j=k+(j+1) by omega])
theorem Tm (p:Nat->Bool):∀(l:List SO) (os:List (List OB)) (cur:List OB) (k i:Nat) (o:SO) (o':List OB),l[i]? = some o->os[i]? = some o'->o.op.calm=false->(∀j o2,l[j]? = some o2->i<j->o2.op.calm=false->p (k+j)=false)->BS (fun x=>p x||x==k+i) k l os cur=o'
 | [],os,cur,k,i,o,o',ho,hv,hc,hl=>by simp at ho
 | o0::r,[],cur,k,i,o,o',ho,hv,hc,hl=>by simp at hv
 | o0::r,v0::os,cur,k,0,o,o',ho,hv,hc,hl=>by
  simp at ho hv;subst ho hv;simp only[BS,hc,jj,beq_self_eq_true,Bool.or_true,Bool.not_false,Bool.and_self,if_true];refine KF _ r os _ (k+1) (fun j o2 hj hc2=>?_);have:=hl (j+1) o2 (by simpa using hj) (by omega) hc2;rw[show k+1+j=k+(j+1) by omega,this];simp
 | o0::r,v0::os,cur,k,i+1,o,o',ho,hv,hc,hl=>by
  simp only[List.getElem?_cons_succ] at ho hv;simp only[BS];have e2:(fun x=>p x||x==k+(i+1))=(fun x=>p x||x==k+1+i):=by
   funext x;rw[show k+(i+1)=k+1+i by omega]
  generalize (if ((p k||k==k+(i+1))&&!o0.op.calm)=true then v0 else cur)=cur';rw[e2];exact Tm p r os _ (k+1) i o o' ho hv hc (fun j o2 hj hij hc2=>by
   have:=hl (j+1) o2 (by simpa using hj) (by omega) hc2
   rwa [show k+1+j=k+(j+1) by omega])
theorem OW (p q:Nat->Bool) (t:Nat):∀(l:List SO) (vs tm tm':List AV) (k:Nat),tm[t]? = tm'[t]?->tm.length=tm'.length->(∀j o,l[j]? = some o->o.dst=some t->p (k+j)=q (k+j))->(AX p k l vs tm)[t]? = (AX q k l vs tm')[t]?
 | [],vs,tm,tm',k,h,hl,hp=>by cases vs<;>simpa[AX] using h
 | o::r,[],tm,tm',k,h,hl,hp=>by simpa[AX] using h
 | o::r,v::vs,tm,tm',k,h,hl,hp=>by
  simp only[AX];have hstep:∀(b:Bool) (x:List AV),(if b=true then AS x o.dst v else x).length=x.length:=by
   intro b x;cases b<;>cases hd:o.dst<;>simp[AS]
  refine OW p q t r vs _ _ (k+1) ?_ (by rw[hstep,hstep,hl]) (fun j o' hj ho'=>by
   have:=hp (j+1) o' (by simpa using hj) ho'
   rwa [show k+1+j=k+(j+1) by omega])
  cases hd:o.dst with
  | none=>cases p k<;>cases q k<;>simpa[AS] using h
  | some d=>
   by_cases e:d=t
   ·subst e;have:=hp 0 o rfl hd;simp only[jj] at this;rw[this]
    cases q k
    ·simpa using h
    ·simp only[if_true,AS,List.getElem?_set_self',h]
   ·cases p k<;>cases q k<;>simp[AS,zo e,h]
theorem RJ (p:Nat->Bool) (d:Nat) (v:AV):∀(l:List SO) (vs tm:List AV) (k:Nat),(∀o∈l,o.dst≠some d)->AX p k l vs (tm.set d v)=(AX p k l vs tm).set d v
 | [],vs,tm,k,h=>by cases vs<;>rfl
 | o::r,[],tm,k,h=>rfl
 | o::r,z::vs,tm,k,h=>by
  simp only[AX];rw[<-RJ p d v r vs _ (k+1) (fun o' ho'=>h o' (qp _ ho'))]
  congr 1
  cases p k
  ·rfl
  ·simp only[if_true]
   cases hd:o.dst with
   | none=>rfl
   | some e=>
    have:e≠d:=fun e'=>h o (List.mem_cons_self ..) (by rw[hd,e']);simp only[AS];rw[List.set_comm _ _ this]
theorem Mh (p q:Nat->Bool):∀(l:List SO) (vs tm:List AV) (k:Nat),(∀j,j<l.length->p (k+j)=q (k+j))->AX p k l vs tm=AX q k l vs tm
 | [],vs,tm,k,h=>by cases vs<;>rfl
 | o::r,[],tm,k,h=>rfl
 | o::r,z::vs,tm,k,h=>by
  simp only[AX];have:=h 0 (by simp);simp only[jj] at this;rw[this];exact Mh p q r vs _ (k+1) (fun j hj=>by
   have:=h (j+1) (by simp;omega)
   rwa [show k+1+j=k+(j+1) by omega])
theorem Mi (p:Nat->Bool):∀(l:List SO) (vs tm:List AV) (k i:Nat) (o:SO) (v:AV),l[i]? = some o->vs[i]? = some v->p (k+i)=false->(∀j o',l[j]? = some o'->j≠i->o'.dst≠o.dst\/o.dst=none) ->
  AS (AX p k l vs tm) o.dst v=AX (fun x=>p x||x==k+i) k l vs tm
 | [],vs,tm,k,i,o,v,ho,hv,hp,hd=>by simp at ho
 | o0::r,[],tm,k,i,o,v,ho,hv,hp,hd=>by simp at hv
 | o0::r,v0::vs,tm,k,0,o,v,ho,hv,hp,hd=>by
  simp at ho hv hp;subst ho hv;simp only[AX,hp,Bool.false_eq_true,if_false,jj,beq_self_eq_true,Bool.or_true,if_true];have e1:AX (fun x=>p x||x==k) (k+1) r vs (AS tm o0.dst v0)=AX p (k+1) r vs (AS tm o0.dst v0) :=
   Mh _ _ r vs _ (k+1) (fun j hj=>by
    have:(k+1+j==k)=false:=by simp;omega
    rw[this,Bool.or_false])
  rw[e1]
  cases h0:o0.dst with
  | none=>rfl
  | some d=>
   simp only[AS];rw[RJ p d v0 r vs tm (k+1)];intro o' ho' hd';obtain⟨j,hj⟩:=List.mem_iff_getElem?.1 ho';rcases hd (j+1) o' (by simpa using hj) (by omega) with h1|h1
   ·exact h1 (by rw[hd',h0])
   ·rw[h0] at h1;cases h1
 | o0::r,v0::vs,tm,k,i+1,o,v,ho,hv,hp,hd=>by
  simp only[List.getElem?_cons_succ] at ho hv;simp only[AX];have e0:(p k||k==k+(i+1))=p k:=by
   have:(k==k+(i+1))=false:=by simp
   rw[this,Bool.or_false]
  have e2:(fun x=>p x||x==k+(i+1))=(fun x=>p x||x==k+1+i):=by
   funext x;rw[show k+(i+1)=k+1+i by omega]
  simp only[e0];rw[Mi p r vs _ (k+1) i o v ho hv (by rwa [show k+1+i=k+(i+1) by omega]) (fun j o' hj hji=>hd (j+1) o' (by simpa using hj) (by omega)),e2]
theorem Tw {P:Program} [Tabs P]:∀(l:List SO) (objs:List OB) (vs:List AV) (os:List (List OB)) (tm:List AV) (k i:Nat) (o:SO),Ka P objs l vs os tm->l[i]? = some o->∃v o',vs[i]? = some v/\os[i]? = some o'/\J0 P (BS (fun x=>decide (x<k+i)) k l os objs) o v o' (AX (fun x=>decide (x<k+i)) k l vs tm)
 | [],objs,vs,os,tm,k,i,o,h,ho=>by simp at ho
 | o0::r,objs,[],os,tm,k,i,o,h,ho=>by cases os<;>exact h.elim
 | o0::r,objs,v::vs,[],tm,k,i,o,h,ho=>h.elim
 | o0::r,objs,v0::vs,p0::os,tm,k,0,o,h,ho=>by
  simp at ho;subst ho;refine⟨v0,p0,rfl,rfl,?_⟩;have e1:AX (fun x=>decide (x<k+0)) k (o0::r) (v0::vs) tm=tm:=by
   have nil:∀(l:List SO) (vs tm:List AV) (j:Nat),k<=j->AX (fun x=>decide (x<k+0)) j l vs tm=tm:=by
    intro l
    induction l with
    | nil=>intro vs tm j hj;cases vs<;>rfl
    | cons o l ih=>
     intro vs tm j hj
     cases vs with
     | nil=>rfl
     | cons v vs=>
      simp only[AX];rw[if_neg (by simp;omega)];exact ih vs tm (j+1) (by omega)
   exact nil _ _ _ k (ze _)
  rw[e1,KF _ _ _ _ _ (fun j o hj hc=>by simp)];exact h.1
 | o0::r,objs,v0::vs,p0::os,tm,k,i+1,o,h,ho=>by
  obtain⟨v,o',h1,h2,h3⟩:=Tw r p0 vs os _ (k+1) i o h.2 (by simpa using ho);refine⟨v,o',by simpa using h1,by simpa using h2,?_⟩;simp only[AX,BS];have e:(if (decide (k<k+(i+1))&&!o0.op.calm)=true then p0 else objs)=p0:=by
   cases hc:o0.op.calm with
   | true=>simp[h.1.1 hc]
   | false=>simp
  have e9:(if decide (k<k+(i+1))=true then AS tm o0.dst v0 else tm)=AS tm o0.dst v0:=if_pos (by simp);rw[e,e9,show k+(i+1)=k+1+i by omega];exact h3
def Be (o:Oper):List Nat:=(o.after.toList.filter (Region.binds .any)).map (·.on)
def B0 (deps:List (List Nat)):List (List Nat):=deps.foldl (fun acc d=>acc++[(d++d.flatMap fun e=>acc.getD e []).eraseDups]) []
def SV.tmp?:SV->Option Nat
 | .t n=>some n
 | _=>none
def SO.looks (o:SO):List Nat:=o.op.svs.filterMap SV.tmp?++(match o.gd with|some (t,_)=>[t] | none=>[])
def Ro (l:List SO):Nat:=l.findIdx fun o=>!o.op.calm||o.dst.isNone
def Az (l:List SO) (j:Nat):Option Nat:=(l[j]?).bind (·.dst)
def IL (l:List SO) (j:Nat):Bool:=((l[j]?).map (·.op.touch)).getD false
def IM (l:List SO) (j:Nat):Bool:=((l[j]?).map (fun o=>!o.op.calm)).getD false
def K3 (l:List SO) (i:Nat):Option Nat :=
 match l[i]? with
 | some ⟨_,.load1 (.t s),_⟩=>some s
 | some ⟨_,.loadn _ (.t s),_⟩=>some s
 | _=>none
def W8 (l:List SO) (d:Nat):Bool:=l.any fun q=>match q.op with
 | .app _ _ _ (.t x) _=>x==d
 | _=>false
def It (l:List SO) (j:Nat):Option Nat :=
 match l[j]? with
 | some ⟨_,.store _ (.t s) _,none⟩=>some s
 | some ⟨some d,.alloc _ _,none⟩=>some d
 | some ⟨some d,.app _ _ _ _ _,none⟩=>some d
 | some ⟨some d,.apps _ _ _,none⟩=>some d
 | some ⟨some d,.bslo _ _ _ _ _,none⟩=>some d
 | some ⟨some d,.trn _ _ _,none⟩=>if W8 l d=true then some d else none
 | _=>none
def Iz (l:List SO) (j:Nat):Nat :=
 match l[j]? with
 | some ⟨some _,.alloc _ _,none⟩=>j+1
 | some ⟨some _,.app _ _ _ _ _,none⟩=>j+1
 | some ⟨some _,.apps _ _ _,none⟩=>j+1
 | some ⟨some _,.bslo _ _ _ _ _,none⟩=>j+1
 | some ⟨some _,.trn _ _ _,none⟩=>j+1
 | _=>j
def K4 (l:List SO) (i:Nat):Option (Nat×Bool):=(l[i]?).bind (·.gd)
def NC (l:List SO) (k i:Nat):Bool:=match K4 l i with
 | some (g,_)=>(zi k).all fun m=>decide (m<i)||Az l m != some g
 | none=>true
def Hc (l:List SO) (k i j:Nat):Bool :=
 match K3 l i,It l j with
 | some s,some s'=>(zi k).all (fun m=>decide (m<i)||Az l m != some s)&&(zi k).all (fun m=>decide (m<Iz l j)||Az l m != some s')&&NC l k i
 | _,_=>false
def Ra (l:List SO) (anc:List (List Nat)) (i j:Nat):Option (Nat×Nat×Option (Nat×Bool)) :=
 if (IL l i&&IM l j&&!(j==i)&&!(if j<i then (anc.getD i []).contains j else (anc.getD j []).contains i))=true then
  match K3 l i,It l j with
  | some s,some s'=>some (s,s',K4 l i)
  | _,_=>none
 else none
def Gi (l:List SO) (anc:List (List Nat)) (k:Nat):List (Nat×Nat×Option (Nat×Bool)):=(zi k).flatMap fun i=>(zi k).filterMap fun j=>Ra l anc i j
def Gb:Option AV->Option AV->Prop
 | some (.p b _),some (.p b' _)=>¬b=b'
 | some (.p b _),some (.orow b' _)=>¬b=b'
 | some (.p b _),some (.porow b' _ _)=>¬b=b'
 | some (.prow _ _),some (.p _ _)=>True
 | some (.prow _ _),some (.orow _ _)=>True
 | some (.prow _ _),some (.porow _ _ _)=>True
 | _,_=>False
def QJ:Option AV->Option AV->Prop
 | some (.porow b _ _),some (.porow b' _ _)=>¬b=b'
 | some (.porow b _ _),some (.p b' _)=>¬b=b'
 | _,_=>False
def Lf:Option AV->Bool->Prop->Prop
 | some (.b true),true,p=>p
 | some (.b false),false,p=>p
 | some (.b true),false,_=>True
 | some (.b false),true,_=>True
 | _,_,p=>p
def J6:Option (Nat×Bool)->List AV->Prop->Prop
 | none,_,p=>p
 | some (g,want),tm,p=>Lf tm[g]? want p
theorem ZX {g:Option (Nat×Bool)} {tm:List AV} {p:Prop} (h:J6 g tm p) (hg:∀t want,g=some (t,want)->tm[t]? = some (.b want)):p:=by
 cases g with
 | none=>exact h
 | some x=>
  obtain⟨t,want⟩:=x;have h2:=hg t want rfl;simp only[J6,h2] at h
  cases want<;>exact h
def FG:List (Nat×Nat×Option (Nat×Bool))->List AV->Prop
 | [],_=>True
 | (s,s',g)::r,tm=>(if s'<1000000 then J6 g tm (Gb tm[s]? tm[s']?) else QJ tm[s]? tm[s' - 1000000]?)/\FG r tm
theorem Sy:∀(r:List (Nat×Nat×Option (Nat×Bool))) (tm:List AV) (s s':Nat) (g:Option (Nat×Bool)),FG r tm->(s,s',g)∈r->s'<1000000->J6 g tm (Gb tm[s]? tm[s']?)
 | [],tm,s,s',g,h,hm,hs=>by cases hm
 | (x,y,z)::r,tm,s,s',g,h,hm,hs=>by
  rcases zv.1 hm with e|hm
  ·cases e
   have:=h.1
   rwa [if_pos hs] at this
  ·exact Sy r tm s s' g h.2 hm hs
def Jv (l:List SO) (k:Nat):Bool:=(zi k).all fun j=>match It l j with
 | some s=>decide (s<1000000)
 | none=>true
theorem fQ {l:List SO} {k j s:Nat} (h:Jv l k=true) (hj:j<k) (hs:It l j=some s):s<1000000:=by
 have:=zw.1 h j (qy.2 hj);rw[hs] at this;exact of_decide_eq_true this
def LG (l:List SO) (deps anc:List (List Nat)) (k:Nat):Bool :=
 decide (k<=l.length) &&
 (zi l.length).all (fun i=>(deps.getD i []).all (fun e=>decide (e<i))&&(anc.getD i []).all fun j=>(deps.getD i []).contains j||(deps.getD i []).any fun e=>(anc.getD e []).contains j) &&
 (zi k).all (fun i=>Az l i==none||(zi k).all fun j=>i==j||Az l j != Az l i) &&
 (zi k).all (fun i=>(((l[i]?).map (·.looks)).getD []).all fun t=>(zi k).all fun j=>j==i||Az l j != some t||(anc.getD i []).contains j||(anc.getD j []).contains i) &&
 (zi k).all (fun i=>!IL l i||(zi k).all fun j=>!IM l j||j==i||(if j<i then (anc.getD i []).contains j else (anc.getD j []).contains i)||Hc l k i j) &&
 ((zi l.length).all fun j=>decide (j<k)||(zi j).all fun i=>(anc.getD j []).contains i)&&Jv l k
def GI (l:List SO) (deps anc:List (List Nat)) (k:Nat):Bool :=
 decide (k<=l.length) &&
 (zi l.length).all (fun i=>(deps.getD i []).all (fun e=>decide (e<i))&&(anc.getD i []).all fun j=>(deps.getD i []).contains j||(deps.getD i []).any fun e=>(anc.getD e []).contains j) &&
 (zi k).all (fun i=>Az l i==none||(zi k).all fun j=>i==j||Az l j != Az l i) &&
 (zi k).all (fun i=>(((l[i]?).map (·.looks)).getD []).all fun t=>(zi k).all fun j=>j==i||Az l j != some t||(anc.getD i []).contains j||(anc.getD j []).contains i) &&
 (zi k).all (fun i=>!IL l i||(zi k).all fun j=>!IM l j||j==i||(if j<i then (anc.getD i []).contains j else (anc.getD j []).contains i)||Hc l k i j) &&
 ((zi l.length).all fun j=>decide (j<k)||(zi k).all fun i=>(anc.getD j []).contains i)&&Jv l k
section
variable {P:Program} [Tabs P] {C:Cx} [On P C] {K:Bp}
theorem Mz (deps anc:List (List Nat)) (n:Nat) (h1:∀i,i<n->(∀e∈deps.getD i [],e<i)/\∀j∈anc.getD i [],j∈deps.getD i []\/∃e∈deps.getD i [],j∈anc.getD e []) (p:Nat->Bool) (hc:∀i,i<n->p i=true->∀e∈deps.getD i [],p e=true) :
  ∀i,i<n->(∀e∈deps.getD i [],p e=true)->∀j∈anc.getD i [],p j=true:=by
 intro i
 induction i using Nat.strongRecOn with
 | _ i ih=>
  intro hi hd j hj;rcases(h1 i hi).2 j hj with h2|⟨e,he,h2⟩
  ·exact hd j h2
  ·have hlt:=(h1 i hi).1 e he;exact ih e hlt (by omega) (hc e (by omega) (hd e he)) j h2
theorem NE (deps anc:List (List Nat)) (n:Nat) (h1:∀i,i<n->(∀e∈deps.getD i [],e<i)/\∀j∈anc.getD i [],j∈deps.getD i []\/∃e∈deps.getD i [],j∈anc.getD e []):∀i,i<n->∀j∈anc.getD i [],j<i:=by
 intro i
 induction i using Nat.strongRecOn with
 | _ i ih=>
  intro hi j hj;rcases(h1 i hi).2 j hj with h2|⟨e,he,h2⟩
  ·exact(h1 i hi).1 j h2
  ·have hlt:=(h1 i hi).1 e he;have:=ih e hlt (by omega) j h2;omega
theorem Tl {P:Program} [Tabs P] (b:Nat) (q:Nat->Bool):∀(l:List SO) (objs:List OB) (vs:List AV) (os:List (List OB)) (tm:List AV) (k:Nat),Ka P objs l vs os tm ->
  (∀j m o o2,l[j]? = some o->l[m]? = some o2->j<m->o.op.calm=false->o2.op.calm=false->q (k+m)=true->q (k+j)=true) ->
  (∀j o v o' t ob,l[j]? = some o->o.op.calm=false->q (k+j)=true->os[j]? = some o'->vs[j]? = some v->J0 P ob o v o' t->t=AX (fun x=>decide (x<k+j)) k l vs tm->o'[b]? = ob[b]?) ->
  (BS q k l os objs)[b]? = objs[b]?
 | [],objs,vs,os,tm,k,h,hc,hk=>by cases os<;>rfl
 | o::r,objs,[],os,tm,k,h,hc,hk=>by cases os<;>exact h.elim
 | o::r,objs,v::vs,[],tm,k,h,hc,hk=>h.elim
 | o::r,objs,v::vs,o'::os,tm,k,h,hc,hk=>by
  simp only[BS];have e0:AX (fun x=>decide (x<k+0)) k (o::r) (v::vs) tm=tm:=by
   have nil:∀(l:List SO) (vs tm:List AV) (j:Nat),k<=j->AX (fun x=>decide (x<k+0)) j l vs tm=tm:=by
    intro l
    induction l with
    | nil=>intro vs tm j hj;cases vs<;>rfl
    | cons o l ih=>
     intro vs tm j hj
     cases vs with
     | nil=>rfl
     | cons v vs=>
      simp only[AX];rw[if_neg (by simp;omega)];exact ih vs tm (j+1) (by omega)
   exact nil _ _ _ k (ze _)
  have next:(BS q (k+1) r os o')[b]? = o'[b]?:=by
   refine Tl b q r o' vs os _ (k+1) h.2 (fun j m o1 o2 h1 h2 h3 h4 h5 h6=>?_) (fun j o1 v1 o1' t ob h1 h2 h3 h4 h5 h6 h7=>?_)
   ·have:=hc (j+1) (m+1) o1 o2 (by simpa using h1) (by simpa using h2) (by omega) h4 h5 (by rwa [show k+(m+1)=k+1+m by omega])
    rwa [show k+1+j=k+(j+1) by omega]
   ·refine hk (j+1) o1 v1 o1' t ob (by simpa using h1) h2 (by rwa [show k+(j+1)=k+1+j by omega]) (by simpa using h4) (by simpa using h5) h6 ?_;rw[h7];simp only[AX];rw[if_pos (by simp),show k+(j+1)=k+1+j by omega]
  cases hcm:o.op.calm with
  | true=>
   simp only[Bool.not_true,Bool.and_false,Bool.false_eq_true,if_false];have:=h.1.1 hcm;subst this;exact next
  | false=>
   cases hq:q k with
   | true=>
    simp only[Bool.not_false,Bool.and_self,if_true];rw[next];exact hk 0 o v o' tm objs rfl hcm (by simpa using hq) rfl rfl h.1 e0.symm
   | false=>
    simp only[Bool.false_and,Bool.false_eq_true,if_false];rw[KF];intro j o2 hj h2
    cases hx:q (k+1+j) with
    | false=>rfl
    | true=>
     have:=hc 0 (j+1) o o2 rfl (by simpa using hj) (by omega) hcm h2 (by rwa [show k+(j+1)=k+1+j by omega]);rw[jj,hq] at this;cases this
theorem NP {P:Program} [Tabs P] (b:Nat) (p q:Nat->Bool):∀(l:List SO) (objs:List OB) (vs:List AV) (os:List (List OB)) (tm:List AV) (k:Nat),Ka P objs l vs os tm ->
  (∀j m o o2,l[j]? = some o->l[m]? = some o2->j<m->o.op.calm=false->o2.op.calm=false->q (k+m)=true->q (k+j)=true) ->
  (∀j m o o2,l[j]? = some o->l[m]? = some o2->j<m->o.op.calm=false->o2.op.calm=false->p (k+m)=true->p (k+j)=true) ->
  (∀j o,l[j]? = some o->o.op.calm=false->p (k+j)=true->q (k+j)=true) ->
  (∀j o v o' t ob,l[j]? = some o->o.op.calm=false->p (k+j)=false->q (k+j)=true->os[j]? = some o'->vs[j]? = some v->J0 P ob o v o' t->t=AX (fun x=>decide (x<k+j)) k l vs tm->o'[b]? = ob[b]?) ->
  (BS p k l os objs)[b]? = (BS q k l os objs)[b]?
 | [],objs,vs,os,tm,k,h,hq,hp,hs,hk=>by cases os<;>rfl
 | o::r,objs,[],os,tm,k,h,hq,hp,hs,hk=>by cases os<;>exact h.elim
 | o::r,objs,v::vs,[],tm,k,h,hq,hp,hs,hk=>h.elim
 | o::r,objs,v::vs,o'::os,tm,k,h,hq,hp,hs,hk=>by
  have CJ:∀(z:Nat->Bool),(∀j m o1 o2,(o::r)[j]? = some o1->(o::r)[m]? = some o2->j<m->o1.op.calm=false->o2.op.calm=false->z (k+m)=true->z (k+j)=true)->∀j m o1 o2,r[j]? = some o1->r[m]? = some o2->j<m->o1.op.calm=false->o2.op.calm=false->z (k+1+m)=true->z (k+1+j)=true:=by
   intro z hz j m o1 o2 h1 h2 h3 h4 h5 h6;have:=hz (j+1) (m+1) o1 o2 (by simpa using h1) (by simpa using h2) (by omega) h4 h5 (by rwa [show k+(m+1)=k+1+m by omega])
   rwa [show k+1+j=k+(j+1) by omega]
  have next:(BS p (k+1) r os o')[b]? = (BS q (k+1) r os o')[b]?:=by
   refine NP b p q r o' vs os _ (k+1) h.2 (CJ q hq) (CJ p hp) (fun j o1 h1 h2 h3=>?_) (fun j o1 v1 o1' t ob h1 h2 h3 h3' h4 h5 h6 h7=>?_)
   ·have:=hs (j+1) o1 (by simpa using h1) h2 (by rwa [show k+(j+1)=k+1+j by omega])
    rwa [show k+1+j=k+(j+1) by omega]
   ·refine hk (j+1) o1 v1 o1' t ob (by simpa using h1) h2 (by rwa [show k+(j+1)=k+1+j by omega]) (by rwa [show k+(j+1)=k+1+j by omega]) (by simpa using h4) (by simpa using h5) h6 ?_;rw[h7];simp only[AX];rw[if_pos (by simp),show k+(j+1)=k+1+j by omega]
  cases hcm:o.op.calm with
  | true=>
   have e:=h.1.1 hcm;subst e;simp only[BS,hcm,Bool.not_true,Bool.and_false,Bool.false_eq_true,if_false];exact next
  | false=>
   cases hpk:p k with
   | true=>
    have hqk:q k=true:=hs 0 o rfl hcm (by simpa using hpk);simp only[BS,hcm,hpk,hqk,Bool.not_false,Bool.and_self,if_true];exact next
   | false=>
    have hpn:∀j o2,(o::r)[j]? = some o2->o2.op.calm=false->p (k+j)=false:=by
     intro j o2 hj h2
     cases j with
     | zero=>simpa using hpk
     | succ j=>
      cases hx:p (k+(j+1)) with
      | false=>rfl
      | true=>
       have:=hp 0 (j+1) o o2 rfl hj (by omega) hcm h2 hx;rw[jj,hpk] at this;cases this
    rw[KF p (o::r) (o'::os) objs k hpn]
    symm
    exact Tl b q (o::r) objs (v::vs) (o'::os) tm k h hq (fun j o1 v1 o1' t ob h1 h2 h3 h4 h5 h6 h7=>hk j o1 v1 o1' t ob h1 h2 (hpn j o1 h1 h2) h3 h4 h5 h6 h7)
theorem cD {P:Program} [Tabs P] {op:SOp} {s:Nat} {obi cur:List OB} {tm:List AV} {v:AV} (hop:op=.load1 (.t s)\/∃sz,op=.loadn sz (.t s)) (hb:∀b off,tm[s]? = some (.p b off)->cur[b]? = obi[b]?) (hp:∃b off,tm[s]? = some (.p b off))
  (h:Ai P op obi tm (fun y x=>y=obi/\x=v)):Ai P op cur tm (fun y x=>y=cur/\x=v):=by
 obtain⟨b,off,hp⟩:=hp;have hb:=hb b off hp;rcases hop with rfl|⟨sz,rfl⟩
 ·simp only[Ai,SV.ev,hp,qx,hb] at h ⊢
  split at h
  ·split at h
   ·exact⟨trivial,h.2⟩
   ·exact h
  ·exact h
 ·simp only[Ai,SV.ev,hp,qx,hb] at h ⊢
  split at h
  ·exact⟨h.1,trivial,h.2.2⟩
  ·exact h
theorem eJ {P:Program} [Tabs P] {op:SOp} {s:Nat} {obi cur:List OB} {tm:List AV} {v:AV} (hop:op=.load1 (.t s)\/∃sz,op=.loadn sz (.t s)) (hp:∃xs q,tm[s]? = some (.prow xs q))
  (h:Ai P op obi tm (fun y x=>y=obi/\x=v)):Ai P op cur tm (fun y x=>y=cur/\x=v):=by
 obtain⟨xs,q,hp⟩:=hp;rcases hop with rfl|⟨sz,rfl⟩
 ·simp only[Ai,SV.ev,hp,qx] at h ⊢;obtain⟨v',h1,_,h2⟩:=h;exact⟨v',h1,trivial,h2⟩
 ·simp only[Ai,SV.ev,hp,qx] at h ⊢;exact⟨h.1,trivial,h.2.2⟩
theorem fU {P:Program} [Tabs P] {sz s:Nat} {y:SV} {ob o':List OB} {tm:List AV} {v:AV} {b:Nat} (hb:∀b' off,tm[s]? = some (.p b' off)->¬b=b') (hq:∀b' g j,tm[s]? = some (.porow b' g j)->¬b=b') (h:Ai P (.store sz (.t s) y) ob tm (fun z x=>z=o'/\x=v)):o'[b]? = ob[b]?:=by
 simp only[Ai,SV.ev] at h
 cases ht:tm[s]? with
 | none=>rw[ht] at h;exact h.elim
 | some a=>
  rw[ht] at h;simp only[qx] at h
  split at h
  ·rename_i b' off
   split at h
   ·obtain⟨_,rfl,_⟩:=h;have:=hb b' off ht;rw[zo (fun e=>this e.symm)]
   ·exact h.elim
  ·rename_i b' g j
   split at h
   ·obtain⟨_,rfl,_⟩:=h;have:=hq b' g j ht;rw[zo (fun e=>this e.symm)]
   ·exact h.elim
  ·exact h.elim
theorem aO {P:Program} [Tabs P] {op:SOp} {ob o':List OB} {tm:List AV} {v:AV} (hop:(∃E sz by' x y,op=.app E sz by' x y)\/(∃E x y,op=.apps E x y)\/(∃E sz n z ps,op=.bslo E sz n z ps)\/(∃sz x y,op=.trn sz x y)) (h:Ai P op ob tm (fun z x=>z=o'/\x=v)) :
  (∃b g,v=.orow b g/\∀c,¬c=b->o'[c]? = ob[c]?)\/(∃n xs,v=.row n xs)\/v=.nil:=by
 have new:∀x:OB,∀c,¬c=ob.length->(ob++[x])[c]? = ob[c]?:=by
  intro x c hc;rcases zx c ob.length with h6|h6
  ·exact qh h6
  ·rw[qq (by simp;omega),qq h6]
 rcases hop with ⟨E,sz,by',x,y,rfl⟩|⟨E,x,y,rfl⟩|⟨E,sz,n,z,ps,rfl⟩|⟨sz,x,y,rfl⟩
 ·simp only[Ai] at h
  split at h
  ·split at h
   ·split at h
    ·obtain⟨_,rfl,rfl⟩:=h;exact .inl ⟨_,_,rfl,fun c hc=>zo (fun e=>hc e.symm)⟩
    ·exact h.elim
   ·obtain⟨_,rfl,rfl⟩:=h;exact .inl ⟨_,_,rfl,new _⟩
   ·exact h.elim
  ·exact h.elim
 ·simp only[Ai] at h
  split at h
  ·split at h
   ·split at h
    ·obtain⟨_,rfl,rfl⟩:=h;exact .inl ⟨_,_,rfl,fun c hc=>zo (fun e=>hc e.symm)⟩
    ·exact h.elim
   ·obtain⟨_,rfl,rfl⟩:=h;exact .inl ⟨_,_,rfl,new _⟩
   ·exact h.elim
  ·exact h.elim
 ·simp only[Ai] at h
  split at h
  ·obtain⟨_,rfl,rfl⟩:=h;exact .inl ⟨_,_,rfl,new _⟩
  ·exact h.elim
 ·simp only[Ai] at h
  split at h
  ·obtain⟨_,rfl,rfl⟩:=h;exact .inr (.inl ⟨_,_,rfl⟩)
  ·obtain⟨_,rfl,rfl⟩:=h;exact .inr (.inr rfl)
  ·split at h
   ·obtain⟨_,rfl,rfl⟩:=h;exact .inl ⟨_,_,rfl,fun c hc=>zo (fun e=>hc e.symm)⟩
   ·exact h.elim
  ·exact h.elim
theorem cQ (ops:Array Oper) (o:Oper) (so0 so:SO) (hd0:so.dst=so0.dst) (hg0:so.gd=so0.gd) (hcv:∀objs tm K,Ai P so.op objs tm K->Ai P so0.op objs tm K) (obi cur o':List OB) (tm tmi:List AV) (v:AV) (N:Act->World->Prop) (Q:Exit->Act->World->Prop) (h1:EI P ops.toList o=some so0) (h:J0 P obi so v o' tmi)
  (hstep:(∀t want,so.gd=some (t,want)->tm[t]? = some (.b want))->Ai P so.op obi tm (fun y x=>y=o'/\x=v)->Ai P so.op cur tm (fun y x=>y=(if so.op.calm=true then cur else o')/\x=v)) (hskip:o'=obi->(if so.op.calm=true then cur else o')=cur) (hag:∀t∈so.looks,tm[t]? = tmi[t]?) (a:Act) (w:World) (hr:Eo C cur tm a w)
  (hN:∀a w,Eo C (if so.op.calm=true then cur else o') (AS tm so.dst v) a w->N a w):if Region.wanted o (yielded ops a.tmps) then o.wp P a w N Q else N (a.put o.dst undef) w:=by
 obtain⟨d1,op1,g1⟩:=so;dsimp only at hd0 hg0 hcv;subst hd0 hg0;obtain⟨hco,h⟩:=h;have hev:∀x∈op1.svs,x.ev tm=x.ev tmi:=by
  intro x hx
  cases x with
  | c v=>rfl
  | t n=>
   simp only[SV.ev];rw[hag n (xi _ (List.mem_filterMap.2 ⟨_,hx,rfl⟩))]
 unfold EI at h1
 split at h1
 ·cases h1
 ·rename_i op hop;obtain⟨G,I,hin,hm,hd,hdef⟩:=hr
  split at h1
  ·rename_i hg;injection h1 with h1;subst h1
   dsimp only at h hstep hskip hev hN hcv ⊢;rw[if_pos (by simp[Region.wanted,hg])];rw[<-I3 hev] at h;have h:=hstep (fun _ _ e=>by cases e) h;refine LV (C:=C) (type:=o.type) ops.toList o op hop (hcv _ _ _ h) G I a w hin hm hd o _ _ rfl rfl ?_;rintro objs' v' y G' I' w' ⟨rfl,rfl⟩ l1 l2 l3 l4 l5;exact hN _ _ ⟨G',I',l3,l4,H8 (Ad.mono l1 l2 _ _ hd) l5 o.dst,by rw[Ie];exact hdef⟩
  ·rename_i j want hg
   split at h1
   ·rename_i t hj;injection h1 with h1;subst h1
    have hj':(ops[j]?).bind (·.dst)=some t:=by simpa using hj
    dsimp only at h hstep hskip hev hN hcv ⊢;have hat:=hag t (xo _ (List.mem_singleton_self t));have hval:∀v,tm[t]? = some v->∃y,a.tmps[t]? = some y/\Ab G I v y:=by
     intro v hv;obtain⟨y,h3,h4⟩:=Ad.get t hd hv;exact⟨y,by simpa using h3,h4⟩
    rcases h with ⟨h2,h3⟩|⟨h2|⟨vs,h2⟩,rfl,he⟩
    ·obtain⟨y,hy,hyd⟩:=hval _ (hat.trans h2);simp only[Ab] at hyd;subst hyd;have hyi:yielded ops a.tmps j=some want:=by simp[yielded,hj',hy]
     rw[if_pos (by simp[Region.wanted,hg,hyi])];rw[<-I3 hev] at h3;have h3:=hstep (fun _ _ e=>by cases e;exact hat.trans h2) h3;refine LV (C:=C) (type:=o.type) ops.toList o op hop (hcv _ _ _ h3) G I a w hin hm hd o _ _ rfl rfl ?_;rintro objs' v' y G' I' w' ⟨rfl,rfl⟩ l1 l2 l3 l4 l5;exact hN _ _ ⟨G',I',l3,l4,H8 (Ad.mono l1 l2 _ _ hd) l5 o.dst,by rw[Ie];exact hdef⟩
    ·obtain⟨y,hy,hyd⟩:=hval _ (hat.trans h2);simp only[Ab] at hyd;subst hyd;have hyi:yielded ops a.tmps j=some (!want):=by simp[yielded,hj',hy]
     rw[if_neg (by cases want<;>simp[Region.wanted,hg,hyi])]
     rw[hskip he] at hN;exact hN _ _ ⟨G,I,hin,hm,H8 hd (by simp[Ab]) o.dst,by rw[Ie];exact hdef⟩
    ·obtain⟨y,hy,hyd⟩:=hval _ (hat.trans h2);simp only[Ab] at hyd;subst hyd;have hyi:yielded ops a.tmps j=none:=by simp[yielded,hj',hy]
     rw[if_neg (by simp[Region.wanted,hg,hyi])];rw[hskip he] at hN;exact hN _ _ ⟨G,I,hin,hm,H8 hd (by simp[Ab]) o.dst,by rw[Ie];exact hdef⟩
   ·cases h1
theorem Mw {ops:Array Oper} {listed:Array Bool} {i:Nat} (hs:listed.size=ops.size):i∈Region.ready .any ops listed↔i<ops.size/\listed.getD i true=false/\∀e∈(ops.toList.map Be).getD i [],listed.getD e false=true:=by
 unfold Region.ready;rw[xq,qy]
 constructor
 ·rintro⟨h1,h2⟩;simp only[Bool.and_eq_true,Bool.not_eq_true'] at h2;refine⟨h1,h2.1,fun e he=>?_⟩;rw[Array.getElem?_eq_getElem h1] at h2;simp only[jt,qx,Array.all_eq_true'] at h2;have hg:(ops.toList.map Be).getD i []=Be ops[i]:=by
   rw[jz,je,zk (by simpa using h1)];rfl
  rw[hg] at he;unfold Be at he;obtain⟨ed,hed,rfl⟩:=jr.1 he;obtain⟨hm,hb⟩:=xq.1 hed;have:=h2.2 ed (by simpa using hm);simpa[hb] using this
 ·rintro⟨h1,h2,h3⟩;refine⟨h1,?_⟩;simp only[Bool.and_eq_true,Bool.not_eq_true'];refine⟨h2,?_⟩;rw[Array.getElem?_eq_getElem h1];simp only[jt,qx,Array.all_eq_true'];intro ed hed;have hg:(ops.toList.map Be).getD i []=Be ops[i]:=by
   rw[jz,je,zk (by simpa using h1)];rfl
  cases hb:Region.binds .any ed with
  | false=>simp
  | true=>
   simp only[Bool.not_true,Bool.false_or];refine h3 ed.on ?_;rw[hg];exact jr.2 ⟨ed,xq.2 ⟨by simpa using hed,hb⟩,rfl⟩
theorem JJ {α β:Type} (f:α->Option β):∀(l:List α) (r:List β),l.mapM f=some r->l.length=r.length/\∀(i:Nat) (x:α),l[i]? = some x->∃y,r[i]? = some y/\f x=some y
 | [],r,h=>by simp at h;subst h;simp
 | x::l,r,h=>by
  simp only[List.mapM_cons,Option.bind_eq_bind,Option.pure_def] at h
  cases h1:f x with
  | none=>simp[h1] at h
  | some y=>
   cases h2:l.mapM f with
   | none=>simp[h1,h2] at h
   | some r'=>
    simp[h1,h2] at h;subst h;obtain⟨h3,h4⟩:=JJ f l r' h2;refine⟨by simp[h3],fun i z hz=>?_⟩
    cases i with
    | zero=>simp at hz;subst hz;exact⟨y,rfl,h1⟩
    | succ i=>simpa using h4 i z (by simpa using hz)
theorem IU (listed:Array Bool) (i j:Nat) (d:Bool) (hi:i<listed.size):(listed.setIfInBounds i true).getD j d=if j=i then true else listed.getD j d:=by
 simp only[Array.getD_eq_getD_getElem?,Array.getElem?_setIfInBounds]
 by_cases e:j=i
 ·subst e;simp[hi]
 ·rw[if_neg (fun e'=>e e'.symm),if_neg e]
def SO.toP:SO->SO
 | ⟨d,.call f args,g⟩=>⟨d,.pcall f args,g⟩
 | ⟨d,.iad sz x y,g⟩=>⟨d,.iadr sz x y,g⟩
 | ⟨d,.trn sz x y,g⟩=>⟨d,.pu (.rslh sz) [x,y],g⟩
 | o=>o
def SO.toR:SO->SO
 | ⟨d,.call f args,g⟩=>⟨d,.pcall f args,g⟩
 | ⟨d,.iad sz x y,g⟩=>⟨d,.iadr sz x y,g⟩
 | o=>o
def SO.toQ:SO->SO
 | ⟨d,.iad sz x y,g⟩=>⟨d,.iadr sz x y,g⟩
 | o=>o
theorem N9 {sz:Nat} {x y:SV} {objs:List OB} {tm:List AV} {K:List OB->AV->Prop} (h:Ai P (.iadr sz x y) objs tm K):Ai P (.iad sz x y) objs tm K:=by
 simp only[Ai] at h ⊢
 revert h
 cases x.ev tm<;>try exact fun h=>h.elim
 cases y.ev tm<;>first|exact fun h=>h|exact fun h=>h.elim
theorem Yu {sz:Nat} {x y:SV} {objs:List OB} {tm:List AV} {K:List OB->AV->Prop} (h:Ai P (.pu (.rslh sz) [x,y]) objs tm K):Ai P (.trn sz x y) objs tm K:=by
 simp only[Ai,zl,qa] at h ⊢
 revert h
 cases x.ev tm<;>try (intro h;simp[pq] at h;done)
 ·cases y.ev tm<;>try (intro h;simp[pq] at h;done)
  intro h;simp only[pq] at h
  split at h
  ·rename_i v hv
   split at hv
   ·rename_i hc;injection hv with hv;subst hv
    exact⟨hc,h⟩
   ·cases hv
  ·exact h.elim
 ·cases y.ev tm<;>try (intro h;simp[pq] at h;done)
  intro h;simp only[pq] at h
  split at h
  ·rename_i v hv
   split at hv
   ·rename_i hc;injection hv with hv;subst hv
    exact⟨hc,h⟩
   ·cases hv
  ·exact h.elim
theorem Zu (o:SO):o.toQ.dst=o.dst:=by obtain⟨d,op,g⟩:=o;cases op<;>rfl
theorem uB (o:SO):o.toQ.gd=o.gd:=by obtain⟨d,op,g⟩:=o;cases op<;>rfl
theorem uC (o:SO) (objs:List OB) (tm:List AV) (K:List OB->AV->Prop) (h:Ai P o.toQ.op objs tm K):Ai P o.op objs tm K:=by
 obtain⟨d,op,g⟩:=o
 cases op<;>first|exact h|exact N9 h
theorem Zt (o:SO):o.toP.dst=o.dst:=by obtain⟨d,op,g⟩:=o;cases op<;>rfl
theorem tZ (o:SO):o.toP.gd=o.gd:=by obtain⟨d,op,g⟩:=o;cases op<;>rfl
theorem uA (o:SO) (objs:List OB) (tm:List AV) (K:List OB->AV->Prop) (h:Ai P o.toP.op objs tm K):Ai P o.op objs tm K:=by
 obtain⟨d,op,g⟩:=o
 cases op<;>try exact h
 case call f args=>
  simp only[SO.toP,Ai] at h ⊢;exact TX h.1 h.2
 case iad sz x y=>exact N9 h
 case trn sz x y=>exact Yu h
theorem Zv (o:SO):o.toR.dst=o.dst:=by obtain⟨d,op,g⟩:=o;cases op<;>rfl
theorem uD (o:SO):o.toR.gd=o.gd:=by obtain⟨d,op,g⟩:=o;cases op<;>rfl
theorem uE (o:SO) (objs:List OB) (tm:List AV) (K:List OB->AV->Prop) (h:Ai P o.toR.op objs tm K):Ai P o.op objs tm K:=by
 obtain⟨d,op,g⟩:=o
 cases op<;>try exact h
 case call f args=>
  simp only[SO.toR,Ai] at h ⊢;exact TX h.1 h.2
 case iad sz x y=>exact N9 h
end
section
variable {P:Program} [Tabs P] {C:Cx} [On P C] {K:Bp}
theorem Mu (id:Nat) (ops:Array Oper) (l0 l:List SO) (hl:ops.toList.mapM (EI P ops.toList)=some l0) (hlp:l=l0\/l=l0.map SO.toP\/l=l0.map SO.toQ\/l=l0.map SO.toR) (k:Nat) (hok:GI l (ops.toList.map Be) (B0 (ops.toList.map Be)) k=true) (hm:P.follows .mixedOrders=true) {objs:List OB} {tm:List AV} (T:Array Bool->List OB->List AV->Prop) (H:List OB->List AV->Prop)
  (hT0:∀(listed:Array Bool) (o:List OB) (t:List AV),listed.size=ops.size->(∀j,j<k->listed.getD j false=true)->(∀j,k<=j->j<ops.size->listed.getD j false=false)->H o t->T listed o t)
  (hTs:∀(listed:Array Bool) (o:List OB) (t:List AV) (i:Nat) (so:SO),listed.size=ops.size->l[i]? = some so->k<=i->i<ops.size->listed.getD i false=false->(∀j∈(B0 (ops.toList.map Be)).getD i [],listed.getD j false=true)->T listed o t->Aw P [so] o t (fun o2 t2=>T (listed.setIfInBounds i true) o2 t2))
  (hTf:∀(listed:Array Bool) (o:List OB) (t:List AV),listed.size=ops.size->(∀j,j<ops.size->listed.getD j false=true)->T listed o t->K .normal o t)
  (h:Cz P (l.take k) objs tm (fun o t=>FG (Gi l (B0 (ops.toList.map Be)) k) t/\H o t)):∀a w,Eo C objs tm a w->(Code.region id ops true).wp P (CJ C K) a w:=by
 intro a w hr;obtain⟨hlen0,hget0⟩:=JJ _ _ _ hl;have hlen:ops.toList.length=l.length:=by
  rcases hlp with rfl|rfl|rfl|rfl
  ·exact hlen0
  ·rw[qk];exact hlen0
  ·rw[qk];exact hlen0
  ·rw[qk];exact hlen0
 have hget:∀(i:Nat) (x:Oper),ops.toList[i]? = some x->∃y,l[i]? = some y/\∃y0,EI P ops.toList x=some y0/\y.dst=y0.dst/\y.gd=y0.gd/\∀objs tm K,Ai P y.op objs tm K->Ai P y0.op objs tm K:=by
  intro i x hx;obtain⟨y0,h1,h2⟩:=hget0 i x hx;rcases hlp with rfl|rfl|rfl|rfl
  ·exact⟨y0,h1,y0,h2,rfl,rfl,fun _ _ _ h=>h⟩
  ·exact⟨y0.toP,by rw[je,h1];rfl,y0,h2,Zt y0,tZ y0,fun objs tm K h=>uA y0 objs tm K h⟩
  ·exact⟨y0.toQ,by rw[je,h1];rfl,y0,h2,Zu y0,uB y0,fun objs tm K h=>uC y0 objs tm K h⟩
  ·exact⟨y0.toR,by rw[je,h1];rfl,y0,h2,Zv y0,uD y0,fun objs tm K h=>uE y0 objs tm K h⟩
 have hnl:ops.size=l.length:=by simpa using hlen
 generalize hdeps:ops.toList.map Be=deps at hok h hTs;generalize B0 deps=anc at hok h hTs;simp only[GI,Bool.and_eq_true,decide_eq_true_eq,zw,qy,Bool.or_eq_true,bne_iff_ne,ne_eq,beq_iff_eq,List.any_eq_true,jl] at hok;obtain⟨⟨⟨⟨⟨⟨hk,hd1⟩,hd2⟩,hd3⟩,hm1⟩,hd4⟩,hsm⟩:=hok;obtain⟨vs,os,hfacts,hAp,hK⟩:=KK _ _ _ _ h;have hdep:∀i,i<ops.size->(∀e∈deps.getD i [],e<i)/\∀j∈anc.getD i [],j∈deps.getD i []\/∃e∈deps.getD i [],j∈anc.getD e []:=fun i hi=>hd1 i (by omega);have halt:=NE deps anc ops.size hdep;have htk:(l.take k).length=k:=by rw[zq];omega
 let Inv:Array Bool->Act->World->Prop:=fun listed a w=>
  listed.size=ops.size/\(∀i,i<ops.size->listed.getD i false=true->∀e∈deps.getD i [],listed.getD e false=true) /\
  (((∀j,k<=j->j<ops.size->listed.getD j false=false)/\Eo C (BS (fun x=>listed.getD x false) 0 (l.take k) os objs) (AX (fun x=>listed.getD x false) 0 (l.take k) vs tm) a w) \/
   ((∀j,j<k->listed.getD j false=true)/\∃objs' tm',Eo C objs' tm' a w/\T listed objs' tm'))
 have hgd:∀(listed:Array Bool) (i:Nat),i<listed.size->listed.getD i true=listed.getD i false:=by
  intro listed i hi;simp[Array.getD_eq_getD_getElem?,hi]
 have fin:∀listed a w,Inv listed a w->(∀i,i<ops.size->listed.getD i false=true)->CJ C K .normal a w:=by
  rintro listed a w ⟨hs,hc,hA|⟨hm1,objs',tm',hr',hw⟩⟩ hall
  ·have hT:=hT0 listed (BS (fun x=>listed.getD x false) 0 (l.take k) os objs) (AX (fun x=>listed.getD x false) 0 (l.take k) vs tm) hs (fun j hj=>hall j (by omega)) hA.1 (by
    rw[JO (fun x=>listed.getD x false) (fun _=>true) (l.take k) os objs 0 (fun j o hj _=>by
     rw[qj];exact(hall j (by have:=(zf.1 hj).1;rw[htk] at this;omega))),Mh (fun x=>listed.getD x false) (fun _=>true) _ vs tm 0 (fun j hj=>by
     rw[qj];exact(hall j (by rw[htk] at hj;omega)))]
    exact hK)
   exact⟨_,_,hTf listed _ _ hs hall hT,hA.2⟩
  ·exact⟨objs',tm',hTf listed _ _ hs hall hw,hr'⟩
 have step:∀listed a w i,Inv listed a w->i∈Region.ready .any ops listed->wpOp P ops (CJ C K) i (fun a w=>Inv (listed.setIfInBounds i true) a w) a w:=by
  intro listed a w i hinv hi;obtain⟨hs,hc,hAB⟩:=hinv;obtain⟨hin,hun,hrd⟩:=(Mw hs).1 hi;rw[hdeps] at hrd;rw[hgd listed i (by omega)] at hun;have hanc:=Mz deps anc ops.size hdep (fun x=>listed.getD x false) hc i hin hrd;have ho:ops[i]? = some ops[i]:=Array.getElem?_eq_getElem hin;obtain⟨so,hso,so0,htr,hd0,hg0,hcv⟩:=hget i ops[i] (by rw[zk (by simpa using hin)];simp);have hs':(listed.setIfInBounds i true).size=ops.size:=by rw[Array.size_setIfInBounds];exact hs
  have hset:∀j,(listed.setIfInBounds i true).getD j false=if j=i then true else listed.getD j false:=fun j=>IU listed i j false (by omega)
  have hc':∀x,x<ops.size->(listed.setIfInBounds i true).getD x false=true->∀e∈deps.getD x [],(listed.setIfInBounds i true).getD e false=true:=by
   intro x hx hlx e he;rw[hset] at hlx ⊢
   split
   ·rfl
   ·split at hlx
    ·rename_i e1;subst e1;exact hrd e he
    ·exact hc x hx hlx e he
  suffices hsuf:if Region.wanted ops[i] (yielded ops a.tmps) then ops[i].wp P a w (fun a w=>Inv (listed.setIfInBounds i true) a w) (CJ C K) else Inv (listed.setIfInBounds i true) (a.put ops[i].dst undef) w by
   unfold wpOp;rw[ho];show if Region.wanted ops[i] (yielded ops a.tmps)=true then _ else _
   split
   ·rename_i hw;rw[if_pos hw] at hsuf;exact .inl hsuf
   ·rename_i hw;rw[if_neg hw] at hsuf;exact hsuf
  have tail:∀objs' tm',k<=i->(∀j,j<k->listed.getD j false=true)->Eo C objs' tm' a w->T listed objs' tm' ->
    if Region.wanted ops[i] (yielded ops a.tmps) then ops[i].wp P a w (fun a w=>Inv (listed.setIfInBounds i true) a w) (CJ C K) else Inv (listed.setIfInBounds i true) (a.put ops[i].dst undef) w:=by
   intro objs' tm' hki hlo hr' hw;refine TC ops ops[i] so0 so hd0 hg0 hcv [] objs' tm' _ _ _ htr (hTs listed objs' tm' i so hs hso hki hin hun hanc hw) a w hr' ?_;intro o2 t2 a2 w2 hw2 hr2;refine⟨hs',hc',.inr ⟨fun j hj=>?_,o2,t2,hr2,hw2⟩⟩;rw[hset]
   split
   ·rfl
   ·exact hlo j hj
  rcases zx i k with hik|hik
  ·-- a step of the part whose order is open
   rcases hAB with ⟨hA1,hA2⟩|⟨hm3,_⟩
   ·have hti:(l.take k)[i]? = some so:=by rw[ye hik];exact hso
    obtain⟨v,o',hv,hov,hf⟩:=Tw (l.take k) objs vs os tm 0 i so hfacts hti;have hlook:=hd3 i hik;rw[hso] at hlook;simp only[jt,qx] at hlook;have hag:∀t∈so.looks,(AX (fun x=>listed.getD x false) 0 (l.take k) vs tm)[t]? = (AX (fun x=>decide (x<0+i)) 0 (l.take k) vs tm)[t]?:=by
     intro t ht;refine OW _ _ t _ vs tm tm 0 rfl rfl ?_;intro j o' hj ho';simp only[qj];have hjk:j<k:=by
      rcases zx j k with h0|h0
      ·exact h0
      ·rw[qq (by rw[htk];exact h0)] at hj;cases hj
     have hdst:Az l j=some t:=by
      unfold Az;rw[ye hjk] at hj;rw[hj];exact ho'
     rcases hlook t ht j hjk with ((h1|h1)|h1)|h1
     ·subst h1;rw[hun];simp
     ·exact absurd hdst h1
     ·have h2:=hanc j h1;have h3:=halt i hin j h1;rw[h2];simp[h3]
     ·have h3:=halt j (by omega) i h1;have h2:listed.getD j false=false:=by
       cases hq:listed.getD j false with
       | false=>rfl
       | true=>
        have:=Mz deps anc ops.size hdep (fun x=>listed.getD x false) hc j (by omega) (hc j (by omega) hq) i h1;rw[hun] at this;cases this
      rw[h2];symm;simp;omega
    have hord:∀i2 j o2 o3,l[i2]? = some o3->o3.op.touch=true->i2<k->l[j]? = some o2->o2.op.calm=false->j<k->j≠i2->(if j<i2 then j∈anc.getD i2 [] else i2∈anc.getD j [])\/(Hc l k i2 j=true/\¬(if j<i2 then j∈anc.getD i2 [] else i2∈anc.getD j [])):=by
     intro i2 j o2 o3 hi2 ht2 hik2 hj hcj hjk hji;have wj:IM l j=true:=by simp[IM,hj,hcj]
     have ti:IL l i2=true:=by simp[IL,hi2,ht2]
     by_cases hc0:(if j<i2 then j∈anc.getD i2 [] else i2∈anc.getD j [])
     ·exact .inl hc0
     ·right;refine⟨?_,hc0⟩;rcases hm1 i2 hik2 with h0|h0
      ·rw[ti] at h0;cases h0
      ·rcases h0 j hjk with ((h0|h0)|h0)|h0
       ·rw[wj] at h0;cases h0
       ·exact absurd h0 hji
       ·exfalso;apply hc0
        split at h0<;>rename_i hlt
        ·rw[if_pos hlt];simpa using h0
        ·rw[if_neg hlt];simpa using h0
       ·exact h0
    have hdone:∀i2 j,i2<ops.size->j<ops.size->listed.getD i2 false=false->(∀x∈anc.getD i2 [],listed.getD x false=true)->(if j<i2 then j∈anc.getD i2 [] else i2∈anc.getD j [])->listed.getD j false=decide (j<i2):=by
     intro i2 j hi2 hj hu2 ha2 hcond
     split at hcond
     ·rename_i hlt;rw[ha2 j hcond];simp[hlt]
     ·rename_i hlt;have h2:listed.getD j false=false:=by
       cases hq:listed.getD j false with
       | false=>rfl
       | true=>
        have:=Mz deps anc ops.size hdep (fun x=>listed.getD x false) hc j hj (hc j hj hq) i2 hcond;rw[hu2] at this;cases this
      rw[h2];simp[hlt]
    have hlk:∀{j:Nat} {o2:SO},(l.take k)[j]? = some o2->j<k/\l[j]? = some o2:=by
     intro j o2 hj;have hjk:j<k:=by
      rcases zx j k with h0|h0
      ·exact h0
      ·rw[qq (by rw[htk];exact h0)] at hj;cases hj
     rw[ye hjk] at hj;exact⟨hjk,hj⟩
    have hww:∀j m o1 o2,l[j]? = some o1->l[m]? = some o2->j<m->m<k->o1.op.calm=false->o2.op.calm=false->j∈anc.getD m []:=by
     intro j m o1 o2 h1 h2 hjm hmk hc1 hc2;rcases hord m j o1 o2 h2 (UM hc2).1 hmk h1 hc1 (by omega) (by omega) with h0|⟨h0,_⟩
     ·rw[if_pos hjm] at h0;exact h0
     ·exfalso;unfold Hc K3 at h0;rw[h2] at h0;obtain⟨d2,op2,g2⟩:=o2
      cases op2<;>first|(exact absurd hc2 (fun e=>Bool.noConfusion e))|(simp at h0;done)|(cases h0;done)
    have hmem:∀j o2,(l.take k)[j]? = some o2->o2.op.calm=false->so.op.calm=false->j≠i->listed.getD j false=decide (j<i):=by
     intro j o2 hj hcj hci hji;obtain⟨hjk,hj⟩:=hlk hj;refine hdone i j hin (by omega) hun hanc ?_;rcases zx j i with h0|h0
     ·rw[if_pos h0];exact hww j i o2 so hj hso h0 hik hcj hci
     ·rw[if_neg (by omega)];exact hww i j so o2 hso hj (by omega) hjk hci hcj
    have hclosed:∀j m o1 o2,(l.take k)[j]? = some o1->(l.take k)[m]? = some o2->j<m->o1.op.calm=false->o2.op.calm=false->listed.getD (0+m) false=true->listed.getD (0+j) false=true:=by
     intro j m o1 o2 h1 h2 hjm hc1 hc2 hlm;rw[qj] at hlm ⊢;obtain⟨hjk,h1⟩:=hlk h1;obtain⟨hmk,h2⟩:=hlk h2;exact Mz deps anc ops.size hdep (fun x=>listed.getD x false) hc m (by omega) (hc m (by omega) hlm) j (hww j m o1 o2 h1 h2 hjm hmk hc1 hc2)
    have hclosed2:∀j m o1 o2,(l.take k)[j]? = some o1->(l.take k)[m]? = some o2->j<m->o1.op.calm=false->o2.op.calm=false->decide (0+m<0+i)=true->decide (0+j<0+i)=true:=by
     intro j m o1 o2 _ _ hjm _ _ h;simp at h ⊢;omega
    have hskip:o'=BS (fun x=>decide (x<0+i)) 0 (l.take k) os objs->(if so.op.calm=true then BS (fun x=>listed.getD x false) 0 (l.take k) os objs else o')=BS (fun x=>listed.getD x false) 0 (l.take k) os objs:=by
     intro e
     cases hci:so.op.calm with
     | true=>rw[if_pos rfl]
     | false=>
      rw[if_neg Bool.false_ne_true,e];refine JO _ _ _ _ _ 0 (fun j o2 hj hcj=>?_);rw[qj,qj]
      by_cases hji:j=i
      ·subst hji;rw[hun];simp
      ·exact(hmem j o2 hj hcj hci hji).symm
    have hstep:(∀g want,so.gd=some (g,want)->(AX (fun x=>listed.getD x false) 0 (l.take k) vs tm)[g]? = some (.b want))->Ai P so.op (BS (fun x=>decide (x<0+i)) 0 (l.take k) os objs) (AX (fun x=>listed.getD x false) 0 (l.take k) vs tm) (fun y x=>y=o'/\x=v)->Ai P so.op (BS (fun x=>listed.getD x false) 0 (l.take k) os objs) (AX (fun x=>listed.getD x false) 0 (l.take k) vs tm) (fun y x=>y=(if so.op.calm=true then BS (fun x=>listed.getD x false) 0 (l.take k) os objs else o')/\x=v):=by
     intro hG h
     cases ht:so.op.touch with
     | false=>
      have hci:so.op.calm=true:=by
       cases hq:so.op.calm with
       | true=>rfl
       | false=>rw[(UM hq).1] at ht;cases ht
      rw[if_pos hci];rw[hf.1 hci] at h;exact Sg ht h
     | true=>
      by_cases hall:∀j o2,(l.take k)[j]? = some o2->o2.op.calm=false->j≠i->(if j<i then j∈anc.getD i [] else i∈anc.getD j [])
      ·have ecur:BS (fun x=>listed.getD x false) 0 (l.take k) os objs=BS (fun x=>decide (x<0+i)) 0 (l.take k) os objs:=by
        refine JO _ _ _ _ _ 0 (fun j o2 hj hcj=>?_);rw[qj,qj]
        by_cases hji:j=i
        ·subst hji;rw[hun];simp
        ·exact hdone i j hin (by have:=(hlk hj).1;omega) hun hanc (hall j o2 hj hcj hji)
       rw[ecur]
       cases hci:so.op.calm with
       | true=>rw[if_pos rfl];rw[hf.1 hci] at h;exact h
       | false=>rw[if_neg Bool.false_ne_true];exact h
      ·-- some store is apart
       simp only[Classical.not_forall] at hall;obtain⟨j0,o0,hj0,hc0,hji0,hno0⟩:=hall;have hl0:=hlk hj0;have hap0:Hc l k i j0=true:=by
        rcases hord i j0 o0 so hso ht hik hl0.2 hc0 hl0.1 hji0 with h0|h0
        ·exact absurd h0 hno0
        ·exact h0.1
       obtain⟨s,hs0,hop,hci⟩:∃s,K3 l i=some s/\(so.op=.load1 (.t s)\/∃sz,so.op=.loadn sz (.t s))/\so.op.calm=true:=by
        unfold Hc at hap0
        split at hap0
        ·rename_i s s' h1 h2;refine⟨s,h1,?_⟩;unfold K3 at h1;rw[hso] at h1
         split at h1
         ·rename_i e;cases e;cases h1;exact⟨.inl rfl,rfl⟩
         ·rename_i e;cases e;cases h1;exact⟨.inr ⟨_,rfl⟩,rfl⟩
         ·cases h1
        ·cases hap0
       have hfin:∀{m s1:Nat},((zi k).all (fun x=>decide (x<m)||Az l x != some s1))=true->∀p:Nat->Bool,(∀x,x<m->(∃o2,(l.take k)[x]? = some o2/\o2.dst=some s1)->p x=true)->(AX p 0 (l.take k) vs tm)[s1]? = (AX (fun _=>true) 0 (l.take k) vs tm)[s1]?:=by
        intro m s1 hst p hp;refine OW _ _ s1 _ vs tm tm 0 rfl rfl ?_;intro x o2 hx hd;rw[qj];have hx2:=hlk hx;have:=zw.1 hst x (qy.2 hx2.1);simp only[Bool.or_eq_true,decide_eq_true_eq,bne_iff_ne,ne_eq] at this;rcases this with h1|h1
        ·exact hp x h1 ⟨o2,hx,hd⟩
        ·exfalso;apply h1;unfold Az;rw[hx2.2];exact hd
       have hapst:∀j,Hc l k i j=true->∃s',It l j=some s'/\((zi k).all (fun x=>decide (x<i)||Az l x != some s))=true/\((zi k).all (fun x=>decide (x<Iz l j)||Az l x != some s'))=true/\NC l k i=true:=by
        intro j hj;unfold Hc at hj;rw[hs0] at hj
        split at hj
        ·rename_i s1 s' h1 h2
         cases h1
         simp only[Bool.and_eq_true] at hj;exact⟨s',h2,hj.1.1,hj.1.2,hj.2⟩
        ·cases hj
       have hsL:(AX (fun x=>listed.getD x false) 0 (l.take k) vs tm)[s]? = (AX (fun _=>true) 0 (l.take k) vs tm)[s]?:=by
        obtain⟨s',_,hst,_,_⟩:=hapst j0 hap0;refine hfin hst _ (fun x hx ⟨o2,ho2,hd2⟩=>?_);have hx2:=hlk ho2;have hsl:s∈so.looks:=by
         unfold SO.looks;refine xi _ ?_;rcases hop with e|⟨sz,e⟩<;>rw[e]<;>simp[SOp.svs,SV.tmp?]
        have hdst:Az l x=some s:=by unfold Az;rw[hx2.2];exact hd2
        rcases hlook s hsl x hx2.1 with ((h1|h1)|h1)|h1
        ·omega
        ·exact absurd hdst h1
        ·exact hanc x h1
        ·have:=halt x (by omega) i h1;omega
       have hgL:∀g want,so.gd=some (g,want)->(AX (fun _=>true) 0 (l.take k) vs tm)[g]? = some (.b want):=by
        intro g want hg;obtain⟨s',_,_,_,hgs⟩:=hapst j0 hap0;unfold NC K4 at hgs;rw[hso] at hgs;simp only[Option.bind_some,hg] at hgs;rw[<-hfin hgs (fun x=>listed.getD x false) (fun x hx ⟨o2,ho2,hd2⟩=>?_)]
        ·exact hG g want hg
        have hx2:=hlk ho2;have hsl:g∈so.looks:=by
         unfold SO.looks;rw[hg];exact xo _ (List.mem_singleton_self g)
        have hdst:Az l x=some g:=by unfold Az;rw[hx2.2];exact hd2
        rcases hlook g hsl x hx2.1 with ((h1|h1)|h1)|h1
        ·omega
        ·exact absurd hdst h1
        ·exact hanc x h1
        ·have:=halt x (by omega) i h1;omega
       have hApP:∀j o2,(l.take k)[j]? = some o2->o2.op.calm=false->j≠i->¬(if j<i then j∈anc.getD i [] else i∈anc.getD j [])->∃s',It l j=some s'/\((zi k).all (fun x=>decide (x<Iz l j)||Az l x != some s'))=true/\Gb (AX (fun _=>true) 0 (l.take k) vs tm)[s]? (AX (fun _=>true) 0 (l.take k) vs tm)[s']?:=by
        intro j o2 hj hcj hji hno;have hl2:=hlk hj;have hap:Hc l k i j=true:=by
         rcases hord i j o2 so hso ht hik hl2.2 hcj hl2.1 hji with h0|h0
         ·exact absurd h0 hno
         ·exact h0.1
        obtain⟨s',h1,_,h2,_⟩:=hapst j hap;refine⟨s',h1,h2,ZX (Sy _ _ s s' (K4 l i) hAp ?_ (fQ hsm hl2.1 h1)) (fun g want e=>hgL g want (by unfold K4 at e;rw[hso] at e;exact e))⟩;unfold Gi;refine List.mem_flatMap.2 ⟨i,qy.2 hik,List.mem_filterMap.2 ⟨j,qy.2 hl2.1,?_⟩⟩;unfold Ra;have wj:IM l j=true:=by simp[IM,hl2.2,hcj]
        have ti:IL l i=true:=by simp[IL,hso,ht]
        have hcond:(if j<i then (anc.getD i []).contains j else (anc.getD j []).contains i)=false:=by
         split<;>rename_i hlt
         ·rw[if_pos hlt] at hno;simpa using hno
         ·rw[if_neg hlt] at hno;simpa using hno
        have hji':(j==i)=false:=by simpa using hji
        rw[wj,ti,hcond,hji',hs0,h1];simp
       have hpp:(∃b off,(AX (fun x=>listed.getD x false) 0 (l.take k) vs tm)[s]? = some (.p b off))\/∃xs q,(AX (fun x=>listed.getD x false) 0 (l.take k) vs tm)[s]? = some (.prow xs q):=by
        obtain⟨s',_,_,h1⟩:=hApP j0 o0 hj0 hc0 hji0 hno0;rw[hsL];unfold Gb at h1
        split at h1
        all_goals first
         | exact h1.elim
         | (rename_i e1 e2;exact .inl ⟨_,_,e1⟩)
         | (rename_i e1 e2;exact .inr ⟨_,_,e1⟩)
       rw[if_pos hci];rw[hf.1 hci] at h;rcases hpp with hpp|hpp
       case inr=>exact eJ hop hpp h
       refine cD hop (fun b off hbo=>?_) hpp h;rw[hsL] at hbo;have keepb:∀j o2 v2 o2' t ob,(l.take k)[j]? = some o2->o2.op.calm=false->j≠i->¬(if j<i then j∈anc.getD i [] else i∈anc.getD j [])->vs[j]? = some v2->J0 P ob o2 v2 o2' t->t=AX (fun x=>decide (x<0+j)) 0 (l.take k) vs tm->o2'[b]? = ob[b]?:=by
        intro j o2 v2 o2' t ob hj hcj hji hno hv2 hfj ht2;obtain⟨s',h1,h2,h3⟩:=hApP j o2 hj hcj hji hno;have hl2:=hlk hj;have hkind:(∃sz y,o2.op=.store sz (.t s') y/\o2.gd=none/\Iz l j=j)\/(∃T z,o2.op=.alloc T z/\o2.gd=none/\o2.dst=some s'/\Iz l j=j+1)\/(((∃E sz by' x y,o2.op=.app E sz by' x y)\/(∃E x y,o2.op=.apps E x y)\/(∃E sz n z ps,o2.op=.bslo E sz n z ps)\/(∃sz x y,o2.op=.trn sz x y))/\o2.gd=none/\o2.dst=some s'/\Iz l j=j+1):=by
         unfold It at h1;unfold Iz;rw[hl2.2] at h1 ⊢
         split at h1
         ·rename_i e;cases e;cases h1;refine .inl ⟨_,_,rfl,rfl,?_⟩
          split
          ·rename_i q;cases q
          ·rename_i q;cases q
          ·rename_i q;cases q
          ·rename_i q;cases q
          ·rename_i q;cases q
          ·rfl
         ·rename_i e;cases e;cases h1;exact .inr (.inl ⟨_,_,rfl,rfl,rfl,rfl⟩)
         ·rename_i e;cases e;cases h1;exact .inr (.inr ⟨.inl ⟨_,_,_,_,_,rfl⟩,rfl,rfl,rfl⟩)
         ·rename_i e;cases e;cases h1;exact .inr (.inr ⟨.inr (.inl ⟨_,_,_,rfl⟩),rfl,rfl,rfl⟩)
         ·rename_i e;cases e;cases h1;exact .inr (.inr ⟨.inr (.inr (.inl ⟨_,_,_,_,_,rfl⟩)),rfl,rfl,rfl⟩)
         ·rename_i e;cases e
          split at h1
          ·cases h1;exact .inr (.inr ⟨.inr (.inr (.inr ⟨_,_,_,rfl⟩)),rfl,rfl,rfl⟩)
          ·cases h1
         ·cases h1
        have hfj2:=hfj.2;rcases hkind with ⟨sz,y,e2,hg2,hat⟩|⟨T,z,e2,hg2,hds,hat⟩|⟨hrk,hg2,hds,hat⟩
        ·rw[hg2,e2] at hfj2;rw[hat] at h2;refine fU (fun b' off' hb'=>?_) (fun b' g' j' hb'=>?_) hfj2
         ·rw[ht2] at hb';rw[hfin h2 (fun x=>decide (x<0+j)) (fun x hx _=>by simpa using hx)] at hb';rw[hbo,hb'] at h3;exact h3
         ·rw[ht2] at hb';rw[hfin h2 (fun x=>decide (x<0+j)) (fun x hx _=>by simpa using hx)] at hb';rw[hbo,hb'] at h3;exact h3
        ·rw[hg2,e2] at hfj2;rw[hat] at h2;simp only[Ai] at hfj2;obtain⟨g1,g2⟩:=hfj2;have hdj:=hd2 j hl2.1;have hst:=Mi (fun x=>decide (x<0+j)) (l.take k) vs tm 0 j o2 v2 hj hv2 (by simp) (by
          intro j' o' hj' hjj;have hl3:=hlk hj';rcases hdj with hdj|hdj
          ·right;unfold Az at hdj;rw[hl2.2] at hdj;exact hdj
          ·rcases hdj j' hl3.1 with h5|h5
           ·exact absurd h5.symm hjj
           ·left;intro e
            apply h5
            unfold Az;rw[hl3.2,hl2.2];exact e)
         have hfs:=hfin h2 (fun x=>decide (x<0+j)||x==0+j) (fun x hx _=>by
          simp only[qj,Bool.or_eq_true,decide_eq_true_eq,beq_iff_eq];omega)
         rw[<-hst,hds] at hfs;have hne:¬b=ob.length:=by
          intro eb;simp only[AS] at hfs;have hlt2:s'<(AX (fun x=>decide (x<0+j)) 0 (l.take k) vs tm).length:=by
           rcases zx s' (AX (fun x=>decide (x<0+j)) 0 (l.take k) vs tm).length with h6|h6
           ·exact h6
           ·exfalso;have hn:(AX (fun _=>true) 0 (l.take k) vs tm)[s']? = none:=by
             rw[<-hfs];exact qq (by simp only[zh];exact h6)
            rw[hn,hbo] at h3;exact h3
          rw[zm hlt2,<-g2] at hfs;rw[hbo,<-hfs] at h3;exact h3 eb
         rw[<-g1];rcases zx b ob.length with h6|h6
         ·rw[qh h6]
         ·rw[qq (by simp;omega),qq h6]
        ·rw[hg2] at hfj2;rw[hat] at h2;have hdj:=hd2 j hl2.1;have hst:=Mi (fun x=>decide (x<0+j)) (l.take k) vs tm 0 j o2 v2 hj hv2 (by simp) (by
          intro j' o' hj' hjj;have hl3:=hlk hj';rcases hdj with hdj|hdj
          ·right;unfold Az at hdj;rw[hl2.2] at hdj;exact hdj
          ·rcases hdj j' hl3.1 with h5|h5
           ·exact absurd h5.symm hjj
           ·left;intro e
            apply h5
            unfold Az;rw[hl3.2,hl2.2];exact e)
         have hfs:=hfin h2 (fun x=>decide (x<0+j)||x==0+j) (fun x hx _=>by
          simp only[qj,Bool.or_eq_true,decide_eq_true_eq,beq_iff_eq];omega)
         rw[<-hst,hds] at hfs;have hlt2:s'<(AX (fun x=>decide (x<0+j)) 0 (l.take k) vs tm).length:=by
          unfold Gb at h3;rcases zx s' (AX (fun x=>decide (x<0+j)) 0 (l.take k) vs tm).length with h6|h6
          ·exact h6
          ·exfalso;have hn:(AX (fun _=>true) 0 (l.take k) vs tm)[s']? = none:=by
            rw[<-hfs];exact qq (by simp only[AS,zh];exact h6)
           rw[hn] at h3;rw[hbo] at h3;exact h3
         obtain⟨b',g',hv',hkeep⟩:∃b' g',v2=.orow b' g'/\∀c,¬c=b'->o2'[c]? = ob[c]?:=by
          rcases aO hrk hfj2 with h7|h7
          ·exact h7
          ·exfalso;simp only[AS] at hfs;rw[zm hlt2] at hfs;rw[hbo,<-hfs] at h3;rcases h7 with ⟨n,xs,rfl⟩|rfl<;>exact h3
         have hne:¬b=b':=by
          simp only[AS] at hfs;rw[zm hlt2,hv'] at hfs;rw[hbo,<-hfs] at h3;exact h3
         exact hkeep b hne
       by_cases hmore:∃j o2,(l.take k)[j]? = some o2/\o2.op.calm=false/\i<=j/\listed.getD j false=true
       ·obtain⟨j1,o1,hj1,hc1,hij1,hl1⟩:=hmore
        symm
        refine NP b (fun x=>decide (x<0+i)) (fun x=>listed.getD x false) (l.take k) objs vs os tm 0 hfacts hclosed hclosed2 (fun j o2 hj hcj hlt=>?_) (fun j o2 v2 o2' t ob hj hcj hp hq _ hv2 hfj ht2=>?_)
        ·simp at hlt;exact hclosed j j1 o2 o1 hj hj1 (by omega) hcj hc1 (by simpa using hl1)
        ·have hji:j≠i:=by rintro rfl;rw[qj,hun] at hq;cases hq
         refine keepb j o2 v2 o2' t ob hj hcj hji (fun hcd=>?_) hv2 hfj ht2;have:=hdone i j hin (by have:=(hlk hj).1;omega) hun hanc hcd;simp only[qj] at hq hp;rw[hq] at this;rw[<-this] at hp;cases hp
       ·refine NP b (fun x=>listed.getD x false) (fun x=>decide (x<0+i)) (l.take k) objs vs os tm 0 hfacts hclosed2 hclosed (fun j o2 hj hcj hlt=>?_) (fun j o2 v2 o2' t ob hj hcj hp hq _ hv2 hfj ht2=>?_)
        ·simp only[qj] at hlt ⊢;rcases zx j i with h0|h0
         ·simpa using h0
         ·exact absurd ⟨j,o2,hj,hcj,h0,hlt⟩ hmore
        ·simp at hq;refine keepb j o2 v2 o2' t ob hj hcj (by omega) (fun hcd=>?_) hv2 hfj ht2;have:=hdone i j hin (by have:=(hlk hj).1;omega) hun hanc hcd;simp only[qj] at hp;rw[hp] at this;simp at this;omega
    refine cQ ops ops[i] so0 so hd0 hg0 hcv _ _ o' _ _ v _ _ htr hf hstep hskip hag a w hA2 ?_;intro a2 w2 hr2;refine⟨hs',hc',.inl ⟨fun j hj hjn=>by rw[hset,if_neg (by omega)];exact hA1 j hj hjn,?_⟩⟩;have hdi:=hd2 i hik;rw[Mi (fun x=>listed.getD x false) (l.take k) vs tm 0 i so v hti hv (by simpa using hun) (by
     intro j o' hj hji;have hjk:j<k:=by
      rcases zx j k with h0|h0
      ·exact h0
      ·rw[qq (by rw[htk];exact h0)] at hj;cases hj
     rw[ye hjk] at hj;rcases hdi with hdi|hdi
     ·right;unfold Az at hdi;rw[hso] at hdi;exact hdi
     ·rcases hdi j hjk with h1|h1
      ·exact absurd h1.symm hji
      ·left;intro e
       apply h1
       unfold Az;rw[hj,hso];exact e)] at hr2
    have e2:(fun x=>listed.getD x false||x==0+i)=fun x=>(listed.setIfInBounds i true).getD x false:=by
     funext x
     rw[hset,qj]
     by_cases e:x=i
     ·simp[e]
     ·have:(x==i)=false:=by simp[e]
      rw[if_neg e,this,Bool.or_false]
    rw[e2] at hr2;have e3:(if so.op.calm=true then BS (fun x=>listed.getD x false) 0 (l.take k) os objs else o')=BS (fun x=>(listed.setIfInBounds i true).getD x false) 0 (l.take k) os objs:=by
     rw[<-e2]
     cases hc2:so.op.calm with
     | true=>
      rw[if_pos rfl];refine JO _ _ _ _ _ 0 (fun j o2 hj hcj=>?_);rw[qj];have:j≠i:=by
       rintro rfl;rw[hti] at hj;cases hj;rw[hc2] at hcj;cases hcj
      have:(j==0+i)=false:=by simp;omega
      rw[this,Bool.or_false]
     | false=>
      rw[if_neg Bool.false_ne_true];refine(Tm (fun x=>listed.getD x false) (l.take k) os objs 0 i so o' hti hov hc2 (fun j o2 hj hij hcj=>?_)).symm;rw[qj,hmem j o2 hj hcj hc2 (by omega)];simp;omega
    rw[e3] at hr2;exact hr2
   ·exfalso;have:=hm3 i hik;rw[hun] at this
    cases this
  ·-- a step of the tail
   have hall:∀j,j<k->listed.getD j false=true:=by
    intro j hj;rcases hd4 i (by omega) with h0|h0
    ·omega
    ·exact hanc j (h0 j hj)
   rcases hAB with ⟨hA1,hA2⟩|⟨hm3,objs',tm',hr',hw⟩
   ·refine tail _ _ hik hall hA2 (hT0 listed _ _ hs hall hA1 ?_);rw[JO (fun x=>listed.getD x false) (fun _=>true) (l.take k) os objs 0 (fun j o hj _=>by
     rw[qj];exact hall j (by have:=(zf.1 hj).1;rw[htk] at this;omega)),Mh (fun x=>listed.getD x false) (fun _=>true) _ vs tm 0 (fun j hj=>by
     rw[qj];exact hall j (by rw[htk] at hj;omega))]
    exact hK
   ·exact tail objs' tm' hik hall hr' hw
 have main:∀(fuel:Nat) (S:List Nat) (listed:Array Bool) (a:Act) (w:World),S.length=fuel->(∀i,i<ops.size->listed.getD i false=false->i∈S)->Inv listed a w->wpAny P .any ops (CJ C K) fuel listed a w:=by
  intro fuel
  induction fuel with
  | zero=>
   intro S listed a w hS hcov hinv;have hS0:S=[]:=qz hS;have hall:∀i,i<ops.size->listed.getD i false=true:=by
    intro i hi
    cases hq:listed.getD i false with
    | true=>rfl
    | false=>have:=hcov i hi hq;rw[hS0] at this;cases this
   refine⟨?_,fin listed a w hinv hall⟩
   apply List.eq_nil_iff_forall_not_mem.2
   intro i hi;obtain⟨hin,hun,_⟩:=(Mw hinv.1).1 hi;rw[hgd listed i (by rw[hinv.1];exact hin),hall i hin] at hun;cases hun
  | succ fuel ih=>
   intro S listed a w hS hcov hinv;refine⟨fun hnil=>?_,fun i hi=>?_⟩
   ·refine fin listed a w hinv ?_;intro i
    induction i using Nat.strongRecOn with
    | _ i ih2=>
     intro hi
     cases hq:listed.getD i false with
     | true=>rfl
     | false=>
      have:i∈Region.ready .any ops listed:=(Mw hinv.1).2 ⟨hi,by rw[hgd listed i (by rw[hinv.1];exact hi)];exact hq,fun e he=>by
       rw[hdeps] at he;have:=(hdep i hi).1 e he;exact ih2 e this (by omega)⟩
      rw[hnil] at this;cases this
   ·refine wpOp_mono (fun a' w' hI=>?_) (step listed a w i hinv hi);obtain⟨hin,hun,_⟩:=(Mw hinv.1).1 hi;rw[hgd listed i (by rw[hinv.1];exact hin)] at hun;have hiS:=hcov i hin hun;refine ih (S.erase i) _ a' w' (by rw[List.length_erase_of_mem hiS,hS];rfl) ?_ hI;intro j hj hjn;rw[IU listed i j false (by rw[hinv.1];exact hin)] at hjn
    split at hjn
    ·cases hjn
    ·rename_i e;exact(List.mem_erase_of_ne e).2 (hcov j hj hjn)
 refine wp_region_any hm (main ops.size (zi ops.size) _ a _ (by simp) (fun i hi _=>qy.2 hi) ?_);have hrep:∀(j:Nat),(Array.replicate ops.size false).getD j false=false:=by
  intro j;simp only[Array.getD_eq_getD_getElem?,Array.getElem?_replicate]
  split<;>rfl
 refine⟨by simp,⟨fun i _ hi=>absurd hi (by rw[hrep];exact Bool.false_ne_true),.inl ⟨fun j _ _=>hrep j,?_⟩⟩⟩;have e0:AX (fun x=>(Array.replicate ops.size false).getD x false) 0 (l.take k) vs tm=tm:=by
  have:∀(l:List SO) (vs tm:List AV) (j:Nat),AX (fun x=>(Array.replicate ops.size false).getD x false) j l vs tm=tm:=by
   intro l
   induction l with
   | nil=>intro vs tm j;cases vs<;>rfl
   | cons o l ih=>
    intro vs tm j
    cases vs with
    | nil=>rfl
    | cons v vs=>
     simp only[AX];rw[if_neg (by rw[hrep];exact Bool.false_ne_true)];exact ih vs tm (j+1)
  exact this _ _ _ _
 rw[e0,KF _ _ _ _ _ (fun j _ _ _=>hrep _)];obtain⟨G,I,h1,h2,h3,h4⟩:=hr;exact⟨G,I,⟨h1.os,h1.tape,h1.output,h1.size,h1.block,h1.imm,h1.news,h1.blk,h1.gh⟩,⟨h2.imm,h2.box,h2.row,h2.map,h2.inj,h2.lt,h2.apart,h2.fresh⟩,h3,h4⟩
theorem Oh:∀(l x:List SO) (o:List OB) (t:List AV) (F:List OB->List AV->Prop),Aw P (l++x) o t F=Aw P l o t fun o t=>Aw P x o t F
 | [],x,o,t,F=>rfl
 | ⟨d,op,none⟩::l,x,o,t,F=>by simp only[ja,Aw,Oh l x]
 | ⟨d,op,some (g,w)⟩::l,x,o,t,F=>by simp only[ja,Aw,Oh l x]
theorem X9 (id:Nat) (ops:Array Oper) (l0 l:List SO) (hl:ops.toList.mapM (EI P ops.toList)=some l0) (hlp:l=l0\/l=l0.map SO.toP\/l=l0.map SO.toQ\/l=l0.map SO.toR) (k:Nat) (hok:LG l (ops.toList.map Be) (B0 (ops.toList.map Be)) k=true) (hm:P.follows .mixedOrders=true) {objs:List OB} {tm:List AV}
  (h:Cz P (l.take k) objs tm (fun o t=>FG (Gi l (B0 (ops.toList.map Be)) k) t/\Aw P (l.drop k) o t (fun o t=>K .normal o t))):∀a w,Eo C objs tm a w->(Code.region id ops true).wp P (CJ C K) a w:=by
 obtain⟨hlen0,hget0⟩:=JJ _ _ _ hl;have hlen:ops.size=l.length:=by
  rw[<-Array.length_toList];rcases hlp with rfl|rfl|rfl|rfl
  ·exact hlen0
  ·rw[qk];exact hlen0
  ·rw[qk];exact hlen0
  ·rw[qk];exact hlen0
 unfold LG at hok;simp only[Bool.and_eq_true] at hok;obtain⟨⟨⟨⟨⟨⟨q1,q2⟩,q3⟩,q4⟩,q5⟩,q6⟩,q7⟩:=hok;have hk:k<=l.length:=of_decide_eq_true q1;have q6':=q6;simp only[zw,qy,Bool.or_eq_true,decide_eq_true_eq,jl] at q6';have hpre:GI l (ops.toList.map Be) (B0 (ops.toList.map Be)) k=true:=by
  unfold GI;simp only[Bool.and_eq_true];refine⟨⟨⟨⟨⟨⟨q1,q2⟩,q3⟩,q4⟩,q5⟩,?_⟩,q7⟩;simp only[zw,qy,Bool.or_eq_true,decide_eq_true_eq,jl];intro j hj;rcases q6' j hj with h0|h0
  ·exact .inl h0
  ·by_cases hjk:j<k
   ·exact .inl hjk
   ·exact .inr fun i hi=>h0 i (by omega)
 refine Mu id ops l0 l hl hlp k hpre hm (fun listed o t=>∃i,k<=i/\i<=l.length/\(∀j,j<i->listed.getD j false=true)/\(∀j,i<=j->j<l.length->listed.getD j false=false)/\Aw P (l.drop i) o t fun o t=>K .normal o t) (fun o t=>Aw P (l.drop k) o t fun o t=>K .normal o t) ?_ ?_ ?_ h
 ·exact fun listed o t hs h1 h2 hw=>⟨k,ze _,hk,h1,fun j hj hjl=>h2 j hj (by omega),hw⟩
 ·rintro listed o t i so hs hso hki hi hun hanc ⟨i',h1,h2,h3,h4,hw⟩;have hil:i<l.length:=by omega
  obtain rfl:i'=i:=by
   rcases Nat.lt_trichotomy i' i with c|c|c
   ·rcases q6' i hil with h0|h0
    ·omega
    ·have:=hanc i' (h0 i' c);rw[h4 i' (ze _) (by omega)] at this
     cases this
   ·exact c
   ·rw[h3 i c] at hun;cases hun
  have hset:∀j,(listed.setIfInBounds i' true).getD j false=if j=i' then true else listed.getD j false:=fun j=>IU listed i' j false (by omega)
  have e:(fun (o2:List OB) (t2:List AV)=>∃i,k<=i/\i<=l.length/\(∀j,j<i->(listed.setIfInBounds i' true).getD j false=true)/\(∀j,i<=j->j<l.length->(listed.setIfInBounds i' true).getD j false=false)/\Aw P (l.drop i) o2 t2 fun o t=>K .normal o t)=fun o2 t2=>Aw P (l.drop (i'+1)) o2 t2 fun o t=>K .normal o t:=by
   funext o2 t2
   refine propext ⟨?_,fun hw=>⟨i'+1,by omega,by omega,fun j hj=>?_,fun j hj hjl=>?_,hw⟩⟩
   ·rintro⟨a,a1,a2,a3,a4,a5⟩;obtain rfl:a=i'+1:=by
     rcases Nat.lt_trichotomy a (i'+1) with c|c|c
     ·have:=a4 i' (by omega) hil;rw[hset,if_pos rfl] at this
      cases this
     ·exact c
     ·have:=a3 (i'+1) c;rw[hset,if_neg (by omega),h4 (i'+1) (by omega) (by omega)] at this
      cases this
    exact a5
   ·rw[hset]
    split
    ·rfl
    ·exact h3 j (by omega)
   ·rw[hset,if_neg (by omega)];exact h4 j (by omega) hjl
  rw[e];obtain⟨hlt,rfl⟩:=zf.1 hso;rw[List.drop_eq_getElem_cons hlt] at hw;have hw2:Aw P ([l[i']]++l.drop (i'+1)) o t fun o t=>K .normal o t:=hw;rw[Oh] at hw2;exact hw2
 ·rintro listed o t hs hall ⟨i,h1,h2,h3,h4,hw⟩;obtain rfl:i=l.length:=by
   rcases Nat.eq_or_lt_of_le h2 with c|c
   ·exact c
   ·have:=h4 i (ze _) c;rw[hall i (by omega)] at this
    cases this
  rw[List.drop_length] at hw;exact hw
def Xr (d x y v:Nat) (so:SO):Bool:=match so with
 | ⟨some q,.nck (.t a),none⟩=>(decide (q≠d)&&decide (q≠x)&&decide (q≠y)&&decide (q≠v))&&decide (a≠d)
 | ⟨some q,.fad _ (.t a),none⟩=>(decide (q≠d)&&decide (q≠x)&&decide (q≠y)&&decide (q≠v))&&decide (a≠d)
 | _=>false
section
variable (P)
end
theorem getD_some {o:Option AV} {x:AV} (h:o.getD .u=x) (hx:x≠.u):o=some x:=by
 cases o with
 | none=>exact absurd h.symm hx
 | some z=>exact congrArg some h
theorem fG {d x y v:Nat} {so:SO} {o:List OB} {t:List AV} {F F':List OB->List AV->Prop} (hk:∀o t,F o t->F' o t) (hso:Xr d x y v so=true\/∃s1 e u,so=⟨none,.store s1 (.t e) (.t u),none⟩) (h:Aw P [so] o t F):Aw P [so] o t F':=by
 rcases hso with hso|⟨s1,e,u,rfl⟩
 ·unfold Xr at hso
  split at hso
  ·simp only[Aw,Ai] at h ⊢
   revert h
   split
   all_goals first|exact fun h=>h.elim|exact fun h=>hk _ _ h
  ·simp only[Aw,Ai] at h ⊢
   revert h
   split
   all_goals first|exact fun h=>h.elim|exact fun h=>hk _ _ h
  ·cases hso
 ·simp only[Aw,Ai] at h ⊢
  revert h
  split
  ·split
   ·exact fun h=>⟨h.1,hk _ _ h.2⟩
   ·exact fun h=>h.elim
  ·split
   ·exact fun h=>⟨h.1,hk _ _ h.2⟩
   ·exact fun h=>h.elim
  ·exact fun h=>h.elim
end
def FQ (o:SO):Bool:=o.op.calm&&!o.op.isCall&&o.gd.isNone&&o.dst.isSome
def Nl (o:SO):Bool:=o.op.isCall&&o.gd.isNone&&o.dst.isSome
def SOp.grows:SOp->Bool
 | .bslo .. | .app .. | .cappo ..=>true
 | _=>false
def D0 (o:SO):Bool:=(o.op.isCall||o.op.grows)&&o.gd.isNone&&o.dst.isSome
def AA (l:List SO) (i:Nat):SO:=(l[i]?).getD ⟨none,.mv (.c .nil),none⟩
def CZ (anc:List (List Nat)) (i j:Nat):Bool:=(anc.getD i []).contains j
def Cd (anc:List (List Nat)) (c i:Nat):Bool:=CZ anc i c
def CY (anc:List (List Nat)) (c i:Nat):Bool:=!(i==c)&&!CZ anc i c
def Cj (n:Nat) (p:Nat->Bool) (l:List SO):List SO:=((zi n).filter p).map (AA l)
def Ll (l:List SO) (deps anc:List (List Nat)) (c:Nat):Bool :=
 (zi l.length).all (fun i=>(deps.getD i []).all (fun e=>decide (e<i))&&(anc.getD i []).all fun j=>(deps.getD i []).contains j||(deps.getD i []).any fun e=>(anc.getD e []).contains j) &&
 (zi l.length).all (fun i=>Az l i==none||(zi l.length).all fun j=>i==j||Az l j != Az l i) &&
 (zi l.length).all (fun i=>(AA l i).looks.all fun t=>(zi l.length).all fun j=>j==i||Az l j != some t||(anc.getD i []).contains j||(anc.getD j []).contains i) &&
 decide (c<l.length)&&Nl (AA l c) &&
 (zi l.length).all (fun i=>i==c||(if Cd anc c i=true then
   !(AA l i).op.isCall&&(AA l i).gd.isNone&&(zi i).all (fun j=>!Cd anc c j||CZ anc i j)&&((AA l i).op.calm||(zi l.length).all fun j=>!CY anc c j||!(AA l j).op.touch||CZ anc i j)
  else FQ (AA l i))) &&
 (zi l.length).all (fun j=>(zi l.length).all fun i=>!CZ anc j i||!Cd anc c i||Cd anc c j)&&!CZ anc c c
section
variable {P:Program} [Tabs P]
theorem KA {o:SO} (h:FQ o=true):∃d op,o=⟨some d,op,none⟩/\op.calm=true/\op.isCall=false:=by
 obtain⟨d,op,g⟩:=o;unfold FQ at h;simp only[Bool.and_eq_true,Bool.not_eq_true',Option.isNone_iff_eq_none,Option.isSome_iff_exists] at h;obtain⟨⟨⟨h1,h2⟩,h3⟩,d',h4⟩:=h;subst h3 h4;exact⟨d',op,rfl,h1,h2⟩
theorem Z1 {o:SO} (h:Nl o=true):∃d op,o=⟨some d,op,none⟩/\op.isCall=true:=by
 obtain⟨d,op,g⟩:=o;unfold Nl at h;simp only[Bool.and_eq_true,Option.isNone_iff_eq_none,Option.isSome_iff_exists] at h;obtain⟨⟨h1,h3⟩,d',h4⟩:=h;subst h3 h4;exact⟨d',op,rfl,h1⟩
theorem Rj {o:SO} (h:D0 o=true):∃d op,o=⟨some d,op,none⟩/\(op.isCall||op.grows)=true:=by
 obtain⟨d,op,g⟩:=o;unfold D0 at h;simp only[Bool.and_eq_true,Option.isNone_iff_eq_none,Option.isSome_iff_exists] at h;obtain⟨⟨h1,h3⟩,d',h4⟩:=h;subst h3 h4;exact⟨d',op,rfl,h1⟩
theorem Vy {so:SOp} (hc:so.isCall=true) {objs:List OB} {tm:List AV} {K K':List OB->AV->Prop} (hk:∀o v,K o v->K' o v) (h:Ai P so objs tm K):Ai P so objs tm K':=by
 cases so<;>simp only[SOp.isCall,reduceCtorEq] at hc<;>simp only[Ai] at h ⊢
 case call=>exact h.mono hk
 case pcall=>exact⟨h.1,h.2.mono fun o r h3=>⟨h3.1,hk _ _ h3.2⟩⟩
 case callv=>
  revert h
  split
  ·exact fun h=>⟨h.1,h.2.mono hk⟩
  ·exact fun h=>h.elim
 case inv=>
  revert h
  split
  ·split
   ·exact fun h=>h.mono hk
   ·exact fun h=>h.elim
  ·exact fun h=>h.elim
theorem RG {so:SOp} (hc:(so.isCall||so.grows)=true) {objs:List OB} {tm:List AV} {K K':List OB->AV->Prop} (hk:∀o v,K o v->K' o v) (h:Ai P so objs tm K):Ai P so objs tm K':=by
 by_cases h0:so.isCall=true
 ·exact Vy h0 hk h
 ·cases so<;>simp only[SOp.isCall,SOp.grows,reduceCtorEq,Bool.or_self,Bool.or_true,Bool.or_false,not_true_eq_false,Bool.false_eq_true] at hc h0<;>simp only[Ai] at h ⊢
  case bslo=>
   revert h;split
   ·exact fun h=>⟨h.1,hk _ _ h.2⟩
   ·exact fun h=>h.elim
  case app=>
   revert h;split
   ·split
    ·split
     ·exact fun h=>⟨h.1,hk _ _ h.2⟩
     ·exact fun h=>h.elim
    ·exact fun h=>⟨h.1,hk _ _ h.2⟩
    ·exact fun h=>h.elim
   ·exact fun h=>h.elim
  case cappo=>
   revert h;split
   ·exact fun h=>⟨h.1,hk _ _ h.2⟩
   ·exact fun h=>h.elim
theorem Kk:∀(pre:List SO) (objs:List OB) (tm:List AV) (F:List OB->List AV->Prop),(∀so∈pre,FQ so=true)->(pre.map (·.dst)).Nodup->Aw P pre objs tm F ->
  ∃t1,F objs t1/\t1.length=tm.length/\(∀s,(∀so∈pre,so.dst≠some s)->t1[s]? = tm[s]?) /\
   ∀A so B,pre=A++so::B->∃ti v,Ai P so.op objs ti (fun o x=>o=objs/\x=v)/\(∀s,(∃a∈A,a.dst=some s)->ti[s]? = t1[s]?)/\(∀s,(∀a∈A,a.dst≠some s)->ti[s]? = tm[s]?)/\∀d,so.dst=some d->d<tm.length->t1[d]? = some v
 | [],objs,tm,F,_,_,h=>⟨tm,h,rfl,fun s _=>rfl,fun A so B e=>by cases A<;>cases e⟩
 | so::pre,objs,tm,F,hc,hn,h=>by
  obtain⟨d,op,rfl,c1,c2⟩:=KA (hc so (by simp));rw[zl,List.nodup_cons] at hn;simp only[Aw] at h;obtain⟨v,h1,h2⟩:=Sh c1 c2 h;obtain⟨t1,k1,k2,k3,k4⟩:=Kk pre objs (tm.set d v) F (fun so hs=>hc so (qp _ hs)) hn.2 h2;have hd:∀so∈pre,so.dst≠some d:=fun so hs e=>hn.1 (by show some d∈_;rw[<-e];exact ya hs);refine⟨t1,k1,by rw[k2,zh],fun s hs=>?_,fun A so B e=>?_⟩
  ·rw[k3 s fun so h=>hs so (qp _ h)];have:d≠s:=fun e=>hs ⟨some d,op,none⟩ (by simp) (by rw[e]);exact zo this
  ·cases A with
   | nil=>
    rw[qo] at e;injection e with e1 e2
    subst e1;refine⟨tm,v,h1,(fun s ⟨a,ha,_⟩=>by cases ha),(fun s _=>rfl),fun d' e hl=>?_⟩;injection e with e
    subst e;rw[k3 d hd];exact zm hl
   | cons a A=>
    rw[ja] at e;injection e with e1 e2
    subst e1;obtain⟨ti,v',m1,m2,m3,m4⟩:=k4 A so B e2;refine⟨ti,v',m1,fun s ⟨a,ha,has⟩=>?_,fun s hs=>?_,fun d' e hl=>m4 d' e (by rw[zh];exact hl)⟩
    ·by_cases hA:∃a∈A,a.dst=some s
     ·exact m2 s hA
     ·have hA':∀a∈A,a.dst≠some s:=fun a ha e=>hA ⟨a,ha,e⟩;rcases zv.1 ha with rfl|ha
      ·injection has with has
       subst has;rw[m3 _ hA',k3 _ hd]
      ·exact absurd has (hA' a ha)
    ·rw[m3 s fun a ha=>hs a (qp _ ha)];have:d≠s:=fun e=>hs ⟨some d,op,none⟩ (by simp) (by rw[e]);exact zo this
def FD (l:List SO) (k:Nat) (listed:Array Bool) (t1 tm t:List AV):Prop :=
 t.length=tm.length/\(∀s j,j<k->listed.getD j false=true->Az l j=some s->t[s]? = t1[s]?)/\∀s,(∀j,j<k->listed.getD j false=true->Az l j≠some s)->t[s]? = tm[s]?
theorem FD.step {l:List SO} {k i d:Nat} {listed:Array Bool} {t1 tm t:List AV} {v:AV} (h:FD l k listed t1 tm t) (hi:i<k) (his:i<listed.size) (hd:Az l i=some d) (hdis:∀a b,a<k->b<k->a≠b->Az l a≠none->Az l a≠Az l b) (hu:listed.getD i false=false) (hv:d<tm.length->t1[d]? = some v) (hlen:t1.length=tm.length):FD l k (listed.setIfInBounds i true) t1 tm (t.set d v):=by
 obtain⟨h1,h2,h3⟩:=h;have hset:∀j,(listed.setIfInBounds i true).getD j false=if j=i then true else listed.getD j false:=fun j=>IU listed i j false his
 refine⟨by rw[zh];exact h1,fun s j hj hl hs=>?_,fun s hs=>?_⟩
 ·by_cases e:s=d
  ·subst e
   by_cases hlt:s<t.length
   ·rw[zm hlt,hv (by omega)]
   ·rw[qq (by rw[zh];omega),qq (by omega)]
  ·rw[zo (Ne.symm e)];rw[hset] at hl
   split at hl
   ·rename_i e2;subst e2;rw[hd] at hs;injection hs with hs
    exact absurd hs.symm e
   ·exact h2 s j hj hl hs
 ·have e:¬d=s:=fun e=>hs i hi (by rw[hset,if_pos rfl]) (by rw[hd,e]);rw[zo e];refine h3 s fun j hj hl=>hs j hj ?_;rw[hset]
  split
  ·rfl
  ·exact hl
end
section
theorem IV {n:Nat} {p:Nat->Bool} {l:List SO} {so:SO}:so∈Cj n p l↔∃i,i<n/\p i=true/\AA l i=so:=by
 unfold Cj;simp only[jr,xq,qy,and_assoc]
theorem Ps {n i:Nat} {p:Nat->Bool} (l:List SO) (hi:i<n) (hp:p i=true):∃B:(Nat->Bool)->List SO,(∀q,q i=true->Cj n q l=Cj i q l++AA l i::B q)/\(∀q,q i=false->Cj n q l=Cj i q l++B q)/\∀q q',(∀j,i<j->q j=q' j)->B q=B q':=by
 obtain⟨m,rfl⟩:∃m,n=i+1+m:=⟨n - (i+1),by omega⟩;refine⟨fun q=>(((zi m).map (i+1+·)).filter q).map (AA l),fun q hq=>?_,fun q hq=>?_,fun q q' h=>?_⟩
 ·unfold Cj;rw[List.range_add,List.range_succ];simp[List.filter_append,hq]
 ·unfold Cj;rw[List.range_add,List.range_succ];simp[List.filter_append,hq]
 ·dsimp only
  congr 1
  refine List.filter_congr fun j hj=>h j ?_;obtain⟨x,_,rfl⟩:=jr.1 hj;omega
theorem U2 {n:Nat} {p q:Nat->Bool} (l:List SO) (h:∀i,i<n->p i=q i):Cj n p l=Cj n q l:=by
 unfold Cj
 congr 1
 exact List.filter_congr fun j hj=>h j (qy.1 hj)
theorem Pd {n:Nat} {p:Nat->Bool} (l:List SO) (h:∀i,i<n->p i=false):Cj n p l=[]:=by
 unfold Cj;rw[List.filter_eq_nil_iff.2 fun j hj=>by rw[h j (qy.1 hj)];exact Bool.false_ne_true]
 rfl
theorem Do {l:List SO} {i:Nat} (hi:i<l.length):Az l i=(AA l i).dst:=by
 unfold Az AA;rw[zk hi];rfl
theorem OE {l:List SO} {i:Nat} {so:SO} (h:l[i]? = some so):AA l i=so:=by
 unfold AA;rw[h];rfl
end
section
variable {P:Program} [Tabs P] {C:Cx} [On P C] {K:Bp}
theorem tT (id:Nat) (ops:Array Oper) (l:List SO) (hl:ops.toList.mapM (EI P ops.toList)=some l) (c:Nat) (hok:Ll l (ops.toList.map Be) (B0 (ops.toList.map Be)) c=true) (hm:P.follows .mixedOrders=true) {objs:List OB} {tm:List AV}
  (h:Aw P (Cj l.length (CY (B0 (ops.toList.map Be)) c) l) objs tm fun _ t1=>Aw P [AA l c] objs t1 fun o2 t2=>Aw P (Cj l.length (CY (B0 (ops.toList.map Be)) c) l) o2 tm (fun _ t=>t=t1)/\Aw P (Cj l.length (Cd (B0 (ops.toList.map Be)) c) l) o2 t2 fun o t=>K .normal o t):∀a w,Eo C objs tm a w->(Code.region id ops true).wp P (CJ C K) a w:=by
 have hnl:ops.size=l.length:=by
  have:=(JJ _ _ _ hl).1;simpa using this
 unfold Ll at hok;simp only[Bool.and_eq_true] at hok;obtain⟨⟨⟨⟨⟨⟨⟨hd1,hd2⟩,hd3⟩,hcl⟩,hcall⟩,hcls⟩,htr⟩,hcc⟩:=hok;have hpre:GI l (ops.toList.map Be) (B0 (ops.toList.map Be)) 0=true:=by
  unfold GI;simp only[Bool.and_eq_true];exact⟨⟨⟨⟨⟨⟨by simp,hd1⟩,by simp⟩,by simp⟩,by simp⟩,by simp⟩,by simp[Jv]⟩
 have hap0:∀an,Gi l an 0=[]:=fun an=>by simp[Gi]
 simp only[Bool.and_eq_true,decide_eq_true_eq,zw,qy,Bool.or_eq_true,bne_iff_ne,ne_eq,beq_iff_eq,List.any_eq_true,jl] at hd1 hd2 hd3 hcl hcls htr;have hlen:ops.toList.length=l.length:=by simpa using hnl
 have hdep:∀i,i<ops.size->(∀e∈(ops.toList.map Be).getD i [],e<i)/\∀j∈(B0 (ops.toList.map Be)).getD i [],j∈(ops.toList.map Be).getD i []\/∃e∈(ops.toList.map Be).getD i [],j∈(B0 (ops.toList.map Be)).getD e []:=fun i hi=>hd1 i (by omega);have halt:=NE (ops.toList.map Be) (B0 (ops.toList.map Be)) ops.size hdep;have hfin:=Mu (P:=P) (C:=C) (K:=K) id ops l l hl (.inl rfl) 0 hpre hm (objs:=objs) (tm:=tm);generalize B0 (ops.toList.map Be)=anc at *;clear hd1 hdep hpre;have hdis:∀a b,a<l.length->b<l.length->a≠b->Az l a≠none->Az l a≠Az l b:=fun a b ha hb hab hn e=>by
  rcases hd2 a ha with h0|h0
  ·exact hn h0
  ·rcases h0 b hb with h1|h1
   ·exact hab h1
   ·exact h1 e.symm
 have only:∀s j j',j<l.length->j'<l.length->Az l j=some s->Az l j'=some s->j'=j:=by
  intro s j j' h1 h2 h3 h4
  by_cases e:j'=j
  ·exact e
  ·exact absurd (h4.trans h3.symm) (hdis j' j h2 h1 e (by rw[h4];simp))
 obtain⟨cd,cop,hce,hcop⟩:=Z1 hcall;have hcd:Az l c=some cd:=by rw[Do hcl,hce]
 have hcc':¬c∈anc.getD c []:=fun g=>by
  have:=halt c (by omega) c g;omega
 have kind:∀i,i<l.length->i=c\/CY anc c i=true\/Cd anc c i=true:=by
  intro i hi;unfold CY Cd
  by_cases e:i=c
  ·exact .inl e
  ·right
   cases hq:CZ anc i c
   ·left;simp[e]
   ·right;rfl
 have preNe:∀i,CY anc c i=true->i≠c/\Cd anc c i=false:=by
  intro i hp;unfold CY at hp;unfold Cd;simpa using hp
 have postC:Cd anc c c=false:=by
  unfold Cd CZ;simpa using hcc'
 have postNe:∀i,Cd anc c i=true->i≠c:=fun i hp e=>by rw[e,postC] at hp;cases hp
 have hcalm:∀i,i<l.length->CY anc c i=true->∃d op,AA l i=⟨some d,op,none⟩/\op.calm=true/\op.isCall=false:=by
  intro i hi hp;obtain⟨h1,h2⟩:=preNe i hp;rcases hcls i hi with h0|h0
  ·exact absurd h0 h1
  ·rw[if_neg (by rw[h2];exact Bool.false_ne_true)] at h0;exact KA h0
 have Lb:∀so∈Cj l.length (CY anc c) l,FQ so=true:=by
  intro so hs;obtain⟨i,hi,hp,rfl⟩:=IV.1 hs;obtain⟨h1,h2⟩:=preNe i hp;rcases hcls i hi with h0|h0
  ·exact absurd h0 h1
  ·rwa [if_neg (by rw[h2];exact Bool.false_ne_true)] at h0
 have hnd:((Cj l.length (CY anc c) l).map (·.dst)).Nodup:=by
  unfold Cj;rw[List.map_map];have h0:((zi l.length).filter (CY anc c)).Nodup:=List.nodup_range.sublist List.filter_sublist;refine List.Pairwise.map _ ?_ (List.Pairwise.and_mem.1 h0);rintro a b ⟨ha,hb,hab⟩ e;rw[xq,qy] at ha hb;obtain⟨d,op,e1,_⟩:=hcalm a ha.1 ha.2;refine hdis a b ha.1 hb.1 hab ?_ ?_
  ·rw[Do ha.1,e1];simp
  ·rw[Do ha.1,Do hb.1];exact e
 obtain⟨t1,h1,hl1,ho1,hs1⟩:=Kk _ _ _ _ Lb hnd h;rw[hce] at h1;simp only[Aw,AS] at h1;have hout:∀s,(∀j,j<l.length->CY anc c j=true->Az l j≠some s)->t1[s]? = tm[s]?:=fun s hs=>ho1 s fun so hso e=>by
  obtain⟨i,g1,g2,rfl⟩:=IV.1 hso;exact hs i g1 g2 (by rw[Do g1];exact e)
 have hcdp:t1[cd]? = tm[cd]?:=hout cd fun j hj hp e=>(preNe j hp).1 (only cd c j hcl hj hcd e);have agree:∀(listed:Array Bool) (x1 t:List AV) (i:Nat),i<l.length->listed.getD i false=false->(∀j∈anc.getD i [],listed.getD j false=true)->(∀j,j<l.length->listed.getD j false=true->∀e∈anc.getD j [],listed.getD e false=true)->FD l l.length listed x1 tm t ->
   ∀s∈(AA l i).looks,((∀j,j<l.length->Az l j=some s->listed.getD j false=true/\j∈anc.getD i []/\t[s]? = x1[s]?)\/(∃j,j<l.length/\Az l j=some s/\(j=i\/i∈anc.getD j [])/\listed.getD j false=false/\t[s]? = tm[s]?))/\((∀j,j<l.length->Az l j≠some s)->t[s]? = tm[s]?):=by
  intro listed x1 t i hi hun hanc hclo hmix s hs;refine⟨?_,fun hno=>hmix.2.2 s fun j g1 _=>hno j g1⟩
  by_cases hj:∃j,j<l.length/\Az l j=some s
  ·obtain⟨j,hj1,hj2⟩:=hj;have tmcase:listed.getD j false=false->t[s]? = tm[s]?:=fun hu=>
    hmix.2.2 s fun j' g1 g2 g3=>by rw[only s j j' hj1 g1 hj2 g3,hu] at g2;cases g2
   rcases hd3 i hi s hs j hj1 with ((g|g)|g)|g
   ·subst g;exact .inr ⟨j,hj1,hj2,.inl rfl,hun,tmcase hun⟩
   ·exact absurd hj2 g
   ·left;intro j' g1 g2;obtain rfl:=only s j j' hj1 g1 hj2 g2;exact⟨hanc _ g,g,hmix.2.1 s _ hj1 (hanc _ g) hj2⟩
   ·have hu:listed.getD j false=false:=by
     cases hq:listed.getD j false with
     | false=>rfl
     | true=>
      have:=hclo j hj1 hq i g;rw[hun] at this;cases this
    exact .inr ⟨j,hj1,hj2,.inr g,hu,tmcase hu⟩
  ·exact .inl fun j g1 g2=>absurd ⟨j,g1,g2⟩ hj
 have evOf:∀(i:Nat) (t ti:List AV),(∀s∈(AA l i).looks,t[s]? = ti[s]?)->∀x∈(AA l i).op.svs,x.ev t=x.ev ti:=by
  intro i t ti hs x hx
  cases x with
  | c v=>rfl
  | t s=>
   simp only[SV.ev];rw[hs s (xi _ (List.mem_filterMap.2 ⟨_,hx,rfl⟩))]
 have hval:∀(o:List OB) (x1:List AV),(∀s j,j<l.length->CY anc c j=true->Az l j=some s->x1[s]? = t1[s]?)->(∀A so B,Cj l.length (CY anc c) l=A++so::B->∃ti v,Ai P so.op o ti (fun o' x=>o'=o/\x=v)/\(∀s,(∃a∈A,a.dst=some s)->ti[s]? = t1[s]?)/\(∀s,(∀a∈A,a.dst≠some s)->ti[s]? = tm[s]?)/\∀d,so.dst=some d->d<tm.length->t1[d]? = some v) ->
   ∀(listed:Array Bool) (t:List AV) (i d:Nat) (op:SOp),i<l.length->CY anc c i=true->AA l i=⟨some d,op,none⟩->listed.getD i false=false->(∀j∈anc.getD i [],listed.getD j false=true)->(∀j,j<l.length->listed.getD j false=true->∀e∈anc.getD j [],listed.getD e false=true)->FD l l.length listed x1 tm t ->
   ∃v,Ai P op o t (fun o' x=>o'=o/\x=v)/\(d<tm.length->x1[d]? = some v):=by
  intro o x1 hxe hseq listed t i d op hi hp hso hun hanc hclo hmix;obtain⟨B,hB1,_,_⟩:=Ps l hi hp;obtain⟨ti,v,m1,m2,m3,m4⟩:=hseq _ _ _ (hB1 _ hp);have hdi:Az l i=some d:=by rw[Do hi,hso]
  refine⟨v,?_,fun hlt=>by rw[hxe d i hi hp hdi];exact m4 d (by rw[hso]) hlt⟩;have hA:∀a,a∈Cj i (CY anc c) l↔∃j,j<i/\CY anc c j=true/\AA l j=a:=fun a=>IV;have tiTm:∀s j,j<l.length->Az l j=some s->¬(j<i/\CY anc c j=true)->ti[s]? = tm[s]?:=by
   intro s j hj1 hj2 hn;refine m3 s fun a ha e=>?_;obtain⟨j',g1,g2,rfl⟩:=(hA a).1 ha;have:Az l j'=some s:=by rw[Do (by omega)];exact e
   have:=only s j j' hj1 (by omega) hj2 this;subst this;exact hn ⟨g1,g2⟩
  have hlook:∀s∈(AA l i).looks,t[s]? = ti[s]?:=by
   intro s hs;obtain⟨k1,k2⟩:=agree listed x1 t i hi hun hanc hclo hmix s hs
   by_cases hj:∃j,j<l.length/\Az l j=some s
   ·obtain⟨j,hj1,hj2⟩:=hj;rcases k1 with k1|⟨j',g1,g2,g3,g4,g5⟩
    ·obtain⟨q1,q2,q3⟩:=k1 j hj1 hj2;have hji:=halt i (by omega) j q2;have hpj:CY anc c j=true:=by
      rcases kind j hj1 with e|e|e
      ·subst e;have:Cd anc j i=true:=by unfold Cd CZ;exact jl.2 q2
       rw[(preNe i hp).2] at this;cases this
      ·exact e
      ·have:Cd anc c i=true:=by
        rcases htr i hi j hj1 with (h0|h0)|h0
        ·unfold CZ at h0;rw[jl.2 q2] at h0;cases h0
        ·rw[e] at h0;cases h0
        ·exact h0
       rw[(preNe i hp).2] at this;cases this
     rw[q3,hxe s j hj1 hpj hj2];exact(m2 s ⟨_,(hA _).2 ⟨j,hji,hpj,rfl⟩,by rw[<-Do hj1];exact hj2⟩).symm
    ·rw[g5];refine(tiTm s j' g1 g2 fun hn=>?_).symm;rcases g3 with rfl|g3
     ·omega
     ·have:=halt j' (by omega) i g3;omega
   ·rw[k2 fun j g1 g2=>hj ⟨j,g1,g2⟩];refine(m3 s fun a ha e=>?_).symm;obtain⟨j',g1,g2,rfl⟩:=(hA a).1 ha;exact hj ⟨j',by omega,by rw[Do (by omega)];exact e⟩
  have hev:=evOf i t ti hlook;rw[hso] at hev m1;rw[I3 hev];exact m1
 let Bp (listed:Array Bool) (o:List OB) (t:List AV):Prop:=∃o2 ts,Aw P (Cj l.length (CY anc c) l) o2 tm (fun _ t=>t=t1)/\ts.length=tm.length/\(∀s,(∀j,j<l.length->Az l j≠some s)->ts[s]? = tm[s]?)/\(∀s j,j<l.length->CY anc c j=true->Az l j=some s->ts[s]? = t1[s]?) /\
   (∀s j,j<l.length->Cd anc c j=true->listed.getD j false=false->Az l j=some s->ts[s]? = tm[s]?)/\Aw P (Cj l.length (fun i=>Cd anc c i&&!listed.getD i false) l) o ts (fun o t=>K .normal o t)/\FD l l.length listed ts tm t/\((∀j,j<l.length->CY anc c j=true->(AA l j).op.touch=true->listed.getD j false=true)\/o=o2)
 refine hfin (fun listed o t=>(∀j,j<l.length->listed.getD j false=true->∀e∈anc.getD j [],listed.getD e false=true) /\
  ((listed.getD c false=false/\o=objs/\FD l l.length listed t1 tm t)\/(listed.getD c false=true/\Bp listed o t))) (fun o t=>o=objs/\t=tm) ?_ ?_ ?_ ?_
 ·rintro listed o t hs _ h2 ⟨rfl,rfl⟩;have hall:∀j,j<l.length->listed.getD j false=false:=fun j hj=>h2 j (zd _) (by omega);refine⟨(fun j hj hl=>by rw[hall j hj] at hl;cases hl),.inl ⟨hall c hcl,rfl,rfl,(fun s j hj hl=>?_),(fun s _=>rfl)⟩⟩;rw[hall j hj] at hl;cases hl
 ·intro listed o t i so hs hso _ hin hun hanci hT;obtain⟨hclo,hT⟩:=hT;have hi:i<l.length:=by omega
  obtain rfl:=OE hso;have hset:∀j,(listed.setIfInBounds i true).getD j false=if j=i then true else listed.getD j false:=fun j=>IU listed i j false (by omega)
  have hclo':∀j,j<l.length->(listed.setIfInBounds i true).getD j false=true->∀e∈anc.getD j [],(listed.setIfInBounds i true).getD e false=true:=by
   intro j hj hl e he;rw[hset] at hl ⊢
   split
   ·rfl
   ·split at hl
    ·rename_i e1;subst e1;exact hanci e he
    ·exact hclo j hj hl e he
  rcases kind i hi with hic|hp|hp
  ·-- the call
   subst hic;rcases hT with ⟨hA1,rfl,hmix⟩|⟨hB1,_⟩
   ·rw[hce];simp only[Aw,AS];have hlook:∀s∈(AA l i).looks,t[s]? = t1[s]?:=by
     intro s hs;obtain⟨k1,k2⟩:=agree listed t1 t i hi hun hanci hclo hmix s hs
     by_cases hj:∃j,j<l.length/\Az l j=some s
     ·obtain⟨j,hj1,hj2⟩:=hj;rcases k1 with k1|⟨j',g1,g2,g3,g4,g5⟩
      ·exact(k1 j hj1 hj2).2.2
      ·rw[g5];refine(hout s fun j2 q1 q2 q3=>?_).symm;have:=only s j' j2 g1 q1 g2 q3;subst this;obtain⟨w1,w2⟩:=preNe j2 q2;rcases g3 with g3|g3
       ·exact w1 g3
       ·have:Cd anc i j2=true:=by unfold Cd CZ;exact jl.2 g3
        rw[w2] at this;cases this
     ·rw[k2 fun j g1 g2=>hj ⟨j,g1,g2⟩,hout s fun j g1 _ g2=>hj ⟨j,g1,g2⟩]
    have hev:=evOf i t t1 hlook;rw[hce] at hev;rw[I3 hev];refine Vy hcop (fun o2 v hq=>?_) h1;refine⟨hclo',.inr ⟨by rw[hset,if_pos rfl],o2,t1.set cd v,hq.1,by rw[zh];exact hl1,fun s hs=>?_,fun s j hj hp hd=>?_,fun s j hj hp hu hd=>?_,?_,?_,.inr rfl⟩⟩
    ·have hne:¬cd=s:=fun e=>hs i hi (by rw[hcd,e]);rw[zo hne];exact hout s fun j g1 _=>hs j g1
    ·have hne:¬cd=s:=fun e=>(preNe j hp).1 (only s i j hi hj (by rw[hcd,e]) hd);exact zo hne
    ·have hne:¬cd=s:=fun e=>postNe j hp (only s i j hi hj (by rw[hcd,e]) hd);rw[zo hne];refine hout s fun j2 q1 q2 q3=>?_;have:=only s j j2 hj q1 hd q3;subst this;rw[(preNe j2 q2).2] at hp;cases hp
    ·rw[U2 l (q:=Cd anc i) fun j hj=>?_]
     ·exact hq.2
     ·cases hpj:Cd anc i j with
      | false=>rfl
      | true=>
       have hl0:listed.getD j false=false:=by
        cases hq2:listed.getD j false with
        | false=>rfl
        | true=>
         have:=hclo j hj hq2 i (by unfold Cd CZ at hpj;exact jl.1 hpj);rw[hun] at this;cases this
       rw[hset,if_neg (postNe j hpj),hl0];rfl
    ·have hm2:FD l l.length listed (t1.set cd v) tm t:=by
      refine⟨hmix.1,fun s j hj hl hd=>?_,hmix.2.2⟩;have hne:¬cd=s:=fun e=>by
       have:=only s i j hi hj (by rw[hcd,e]) hd;subst this;rw[hun] at hl;cases hl
      rw[zo hne];exact hmix.2.1 s j hj hl hd
     exact hm2.step hi (by omega) hcd hdis hun (fun hlt=>zm (by omega)) (by rw[zh];exact hl1)
   ·rw[hun] at hB1;cases hB1
  ·-- what does not wait for it
   obtain⟨d,op,hso2,c1,c2⟩:=hcalm i hi hp;have hdi:Az l i=some d:=by rw[Do hi,hso2]
   rcases hT with ⟨hA1,rfl,hmix⟩|⟨hB1,o2,ts,q1,q2,q3,q4,q5,q6,hmix,q7⟩
   ·obtain⟨x,g1,g2⟩:=hval o t1 (fun s j _ _ _=>rfl) hs1 listed t i d op hi hp hso2 hun hanci hclo hmix;rw[hso2];simp only[Aw,AS];obtain⟨y,g3,_,rfl⟩:=Id c1 c2 g1;refine g3 _ ⟨hclo',.inl ⟨?_,rfl,hmix.step hi (by omega) hdi hdis hun g2 hl1⟩⟩;rw[hset,if_neg (Ne.symm (preNe i hp).1)];exact hA1
   ·obtain⟨t1',rfl,_,_,hs2⟩:=Kk _ _ _ _ Lb hnd q1;obtain⟨x,g1,g2⟩:=hval o2 ts q4 hs2 listed t i d op hi hp hso2 hun hanci hclo hmix;have g1:Ai P op o t (fun o' z=>o'=o/\z=x):=by
     rcases q7 with q7|rfl
     ·cases ht:op.touch with
      | false=>exact Sg ht g1
      | true=>
       have:=q7 i hi hp (by rw[hso2];exact ht);rw[hun] at this;cases this
     ·exact g1
    rw[hso2];simp only[Aw,AS];obtain⟨y,g3,_,rfl⟩:=Id c1 c2 g1;refine g3 _ ⟨hclo',.inr ⟨?_,o2,ts,q1,q2,q3,q4,fun s j hj hpj hu hd=>?_,?_,hmix.step hi (by omega) hdi hdis hun g2 q2,?_⟩⟩
    ·rw[hset,if_neg (Ne.symm (preNe i hp).1)];exact hB1
    ·refine q5 s j hj hpj ?_ hd;rw[hset] at hu
     split at hu
     ·cases hu
     ·exact hu
    ·rw[U2 l (q:=fun i=>Cd anc c i&&!listed.getD i false) fun j hj=>?_]
     ·exact q6
     ·rw[hset]
      split
      ·rename_i e;subst e;rw[(preNe j hp).2];rfl
      ·rfl
    ·rcases q7 with q7|q7
     ·left;intro j hj hpj htj;rw[hset]
      split
      ·rfl
      ·exact q7 j hj hpj htj
     ·exact .inr q7
  ·-- what waits for it
   rcases hT with ⟨hA1,_⟩|⟨hB1,o2,ts,q1,q2,q3,q4,q5,q6,hmix,q7⟩
   ·have:=hanci c (by unfold Cd CZ at hp;exact jl.1 hp);rw[hA1] at this;cases this
   have hcl2:(AA l i).op.isCall=false/\(AA l i).gd=none/\(∀j,j<i->Cd anc c j=true->j∈anc.getD i [])/\((AA l i).op.calm=true\/∀j,j<l.length->CY anc c j=true->(AA l j).op.touch=true->j∈anc.getD i []):=by
    rcases hcls i hi with h0|h0
    ·exact absurd h0 (postNe i hp)
    ·rw[if_pos hp] at h0;simp only[Bool.and_eq_true,Bool.not_eq_true',Option.isNone_iff_eq_none,zw,qy,Bool.or_eq_true] at h0;obtain⟨⟨⟨h2,h3⟩,h4⟩,h5⟩:=h0;refine⟨h2,h3,fun j hj hpj=>?_,?_⟩
     ·rcases h4 j hj with h6|h6
      ·rw[hpj] at h6;cases h6
      ·unfold CZ at h6;exact jl.1 h6
     ·rcases h5 with h5|h5
      ·exact .inl h5
      ·right;intro j hj hpj htj;rcases h5 j hj with (h6|h6)|h6
       ·rw[hpj] at h6;cases h6
       ·rw[htj] at h6;cases h6
       ·unfold CZ at h6;exact jl.1 h6
   obtain⟨k1,k2,k3,k4⟩:=hcl2;have hrem:Cj l.length (fun i=>Cd anc c i&&!listed.getD i false) l=AA l i::Cj l.length (fun j=>Cd anc c j&&!(listed.setIfInBounds i true).getD j false) l:=by
    obtain⟨B,hB1,hB2,hB3⟩:=Ps l hi hp;rw[hB1 (fun i=>Cd anc c i&&!listed.getD i false) (by rw[hp,hun];rfl),hB2 (fun j=>Cd anc c j&&!(listed.setIfInBounds i true).getD j false) (by rw[hset,if_pos rfl];simp)];rw[Pd l (n:=i) fun j hj=>?_,Pd l (n:=i) fun j hj=>?_,qo,qo]
    ·congr 1
     refine hB3 _ _ fun j hj=>?_;rw[hset,if_neg (by omega)]
    ·cases hpj:Cd anc c j with
     | false=>rfl
     | true=>rw[hset,if_neg (by omega),hanci j (k3 j hj hpj)];rfl
    ·cases hpj:Cd anc c j with
     | false=>rfl
     | true=>rw[hanci j (k3 j hj hpj)];rfl
   rw[hrem] at q6;have hlook:∀s∈(AA l i).looks,t[s]? = ts[s]?:=by
    intro s hs;obtain⟨w1,w2⟩:=agree listed ts t i hi hun hanci hclo hmix s hs
    by_cases hj:∃j,j<l.length/\Az l j=some s
    ·obtain⟨j,hj1,hj2⟩:=hj;rcases w1 with w1|⟨j',g1,g2,g3,g4,g5⟩
     ·exact(w1 j hj1 hj2).2.2
     ·rw[g5];refine(q5 s j' g1 ?_ g4 g2).symm;rcases g3 with rfl|g3
      ·exact hp
      ·rcases htr j' g1 i hi with (h0|h0)|h0
       ·unfold CZ at h0;rw[jl.2 g3] at h0;cases h0
       ·rw[hp] at h0;cases h0
       ·exact h0
    ·rw[w2 fun j g1 g2=>hj ⟨j,g1,g2⟩,q3 s fun j g1 g2=>hj ⟨j,g1,g2⟩]
   have hev:=evOf i t ts hlook;have hdst:Az l i=(AA l i).dst:=Do hi;generalize hSo:AA l i=so at k1 k2 k4 q6 hev hdst ⊢;obtain⟨d,op,g⟩:=so;dsimp only at k1 k2 k4 hev hdst;subst k2;simp only[Aw] at q6 ⊢;rw[I3 hev];have fin:∀o3 v,Aw P (Cj l.length (fun j=>Cd anc c j&&!(listed.setIfInBounds i true).getD j false) l) o3 (AS ts d v) (fun o t=>K .normal o t)->((∀j,j<l.length->CY anc c j=true->(AA l j).op.touch=true->listed.getD j false=true)\/o3=o2) ->
     (∀j,j<l.length->(listed.setIfInBounds i true).getD j false=true->∀e∈anc.getD j [],(listed.setIfInBounds i true).getD e false=true)/\(((listed.setIfInBounds i true).getD c false=false/\o3=objs/\FD l l.length (listed.setIfInBounds i true) t1 tm (AS t d v))\/((listed.setIfInBounds i true).getD c false=true/\Bp (listed.setIfInBounds i true) o3 (AS t d v))):=by
    intro o3 v hw hq;have hsd:∀s,d≠some s->(AS ts d v)[s]? = ts[s]?:=by
     intro s hs
     cases d with
     | none=>rfl
     | some d=>exact zo (fun e=>hs (by rw[e]))
    refine⟨hclo',.inr ⟨?_,o2,AS ts d v,q1,?_,fun s hs=>?_,fun s j hj hpj hd=>?_,fun s j hj hpj hu hd=>?_,hw,?_,?_⟩⟩
    ·rw[hset,if_neg (Ne.symm (postNe i hp))];exact hB1
    ·cases d with
     | none=>exact q2
     | some d=>rw[AS,zh];exact q2
    ·rw[hsd s (by rw[<-hdst];exact hs i hi)];exact q3 s hs
    ·rw[hsd s (fun e=>?_)]
     ·exact q4 s j hj hpj hd
     ·rw[<-hdst] at e;have:=only s i j hi hj e hd;subst this;rw[(preNe j hpj).2] at hp;cases hp
    ·rw[hset] at hu
     split at hu
     ·cases hu
     ·rename_i hji;rw[hsd s (fun e=>?_)]
      ·exact q5 s j hj hpj hu hd
      ·rw[<-hdst] at e;exact hji (only s i j hi hj e hd)
    ·cases d with
     | none=>
      refine⟨hmix.1,fun s j hj hl hd=>?_,fun s hs=>?_⟩
      ·rw[hset] at hl
       split at hl
       ·rename_i e;subst e;rw[hdst] at hd;cases hd
       ·exact hmix.2.1 s j hj hl hd
      ·refine hmix.2.2 s fun j hj hl=>hs j hj ?_;rw[hset]
       split
       ·rfl
       ·exact hl
     | some d=>
      have hm2:FD l l.length listed (ts.set d v) tm t:=by
       refine⟨hmix.1,fun s j hj hl hd=>?_,hmix.2.2⟩;have hne:¬d=s:=fun e=>by
        subst e;have:=only d i j hi hj hdst hd;subst this;rw[hun] at hl;cases hl
       rw[zo hne];exact hmix.2.1 s j hj hl hd
      exact hm2.step hi (by omega) hdst hdis hun (fun hlt=>zm (by omega)) (by rw[zh];exact q2)
    ·rcases hq with hq|hq
     ·left;intro j hj hpj htj;rw[hset]
      split
      ·rfl
      ·exact hq j hj hpj htj
     ·exact .inr hq
   cases hc:op.calm with
   | true=>
    obtain⟨v,h2,h3⟩:=Id hc k1 q6;exact h2 _ (fin _ _ h3 q7)
   | false=>
    obtain⟨o3,v,h2,h3⟩:=Ul hc q6;refine h2 _ (fin _ _ h3 (.inl fun j hj hpj htj=>?_));rcases k4 with k4|k4
    ·rw[hc] at k4;cases k4
    ·exact hanci j (k4 j hj hpj htj)
 ·intro listed o t hs hall hT;have hall:∀j,j<l.length->listed.getD j false=true:=fun j hj=>hall j (by omega);rcases hT.2 with ⟨hA1,_⟩|⟨hB1,o2,ts,q1,q2,q3,q4,q5,q6,hmix,q7⟩
  ·rw[hall c hcl] at hA1;cases hA1
  ·rw[Pd l fun j hj=>by rw[hall j hj];simp] at q6;have:t=ts:=by
    refine List.ext_getElem? fun s=>?_
    by_cases hj:∃j,j<l.length/\Az l j=some s
    ·obtain⟨j,hj1,hj2⟩:=hj;exact hmix.2.1 s j hj1 (hall j hj1) hj2
    ·rw[hmix.2.2 s fun j g1 _ g3=>hj ⟨j,g1,g3⟩,q3 s fun j g1 g3=>hj ⟨j,g1,g3⟩]
   rw[this];exact q6
 ·simp only[List.take_zero,Cz,hap0,FG,and_self]
end
end Go.Proofs.YtbgaknpnkcdbfaaGreatDoor.Sx
