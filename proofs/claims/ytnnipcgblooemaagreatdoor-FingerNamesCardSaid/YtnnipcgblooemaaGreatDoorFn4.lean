/- The texts that the proofs of these statements reach, in their order, as few files. -/
import Derived.BigRegion
import Derived.Deep.RegionLaw
import Derived.Deep.RegionHeldLaw
import Derived.Deep.DrawnRows
import Derived.Lib.Join
import Derived.Lib.LastIndexByte
import Derived.Lib.Replace
import Derived.Lib.CountLaws
import Derived.Test.YtnnipcgblooemaaGreatDoorFn3
set_option linter.unusedVariables false
set_option linter.unusedSimpArgs false
set_option maxRecDepth 100000
namespace Go.Proofs.YtnnipcgblooemaaGreatDoor
open Go.RowKit
theorem zot (s:ByteArray) (w:World) (h:16384<s.size) :
  Calls Tryz.prog 123 #[.string s] w fun e w'=>e=.returned (zlZ (zaw s.data.toList))∧Qb w w':=by
 have HE:Hid (zaw s.data.toList=(5,zfP)):=Lib.hid (by unfold zaw;rw[if_pos (by rw[zaa];exact h)])
 go_enter Tryz.func123,Tryz.ntmps123
 go_wp2_with fail
 exact bodyPost_ret (v:=zlZ (5,zfP)) (by simp[results,Tryz.results123,go_sem,zlZ,uriA,zbr,zfP]) rfl ⟨by rw[HE.out],(Qb.refl w).alloc _⟩
set_option maxHeartbeats 2000000 in
theorem zlS (s:ByteArray) (w:World) (h:s.size≤16384) :
  Calls Tryz.prog 123 #[.string s] w fun e w'=>e=.returned (zlZ (zaw s.data.toList))∧Qb w w':=by
 obtain⟨l1,fr,bf,h35⟩:∃l1 fr bf,zar 35 s.data.toList=(l1,fr,bf):=⟨_,_,_,rfl⟩
 obtain⟨l2,qu,bq,h63⟩:∃l2 qu bq,zar 63 l1=(l2,qu,bq):=⟨_,_,_,rfl⟩
 have hl1:l1.length≤16384:=by have:=(za5 35 s.data.toList).1;rw[h35,zaa] at this;simp at this;omega
 have hl2:l2.length≤16384:=by have:=(za5 63 l1).1;rw[h63] at this;simp at this;omega
 have HB:Hid (zcB s.data.toList=l2):=Lib.hid (by unfold zcB;rw[h35];simp only;rw[h63])
 have HS:Hid (zbB s.data.toList=zar 58 (zau l2)):=Lib.hid (by unfold zbB;rw[HB.out])
 have HE:Hid (zaw s.data.toList=if ((zbB s.data.toList).2.2&&!zbU (zbB s.data.toList).1)=true then (6,zfP) else (0,{ scheme:=if (zbB s.data.toList).2.2=true then (zbB s.data.toList).1 else [],auth:=zbh (zd9 s.data.toList),path:=zbC (zd9 s.data.toList),query:=qu,frag:=fr,hs:=(zbB s.data.toList).2.2,ha:=zbN (zd9 s.data.toList),hq:=bq,hf:=bf })):=Lib.hid (by
  unfold zaw;rw[if_neg (by rw[zaa];omega),h35];simp only;rw[h63])
 have H35:=Lib.hid h35
 have H63:=Lib.hid h63
 have hfl:=(zaI l2).2
 clear h35 h63
 go_enter Tryz.func123,Tryz.ntmps123
 go_wp2_with fail
 refine(zgw s.data.toList 35 (w.heap.size+1) _ (by rw[zaa];omega) (Obk.alloc (Obk.at_ (w.alloc _) _ _ _ (by simp)) _)).mono ?_
 rintro e w1 ⟨he,hC1,hg1⟩
 rw[H35.out] at he hC1
 subst he
 have hU1:=(Obk.at_ ((w.alloc (.cells (zbr zfP) 119)).alloc (.cells #[.string s] 9)) 119 (zbr zfP) (w.heap.size+2) (by simp)).other hg1 (by omega)
 have hR1:=(Obk.alloc (Obk.alloc (Obk.new w 119 (zbr zfP)) (.cells #[.string s] 9)) (.cells (zbr zfP) 119)).other hg1 (by omega)
 have hq1:Qb w w1:=((((Qb.refl w).alloc (.cells (zbr zfP) 119)).alloc (.cells #[.string s] 9)).alloc (.cells (zbr zfP) 119)).turned hg1 (by omega)
 have hz1:w.heap.size+3≤w1.heap.size:=by have:=hg1.size;simp at this;omega
 have c4:w1.cell? ⟨w.heap.size+2,4,none⟩=some (.string (S [])):=hU1.cell 4
 have c8:w1.cell? ⟨w.heap.size+2,8,none⟩=some (.bool false):=hU1.cell 8
 have f4:=hU1.frozen 4
 have f8:=hU1.frozen 8
 have HU1:=Lib.hid hU1
 have HR1:=Lib.hid hR1
 have HC1:=Lib.hid hC1
 clear hU1 hR1 hC1
 go_wp2_with fail
 refine(zgw l1 63 (w.heap.size+1) _ (by omega) ((HC1.out.st (w.heap.size+2) 4 _ (by omega)).st (w.heap.size+2) 8 _ (by omega))).mono ?_
 rintro e w2 ⟨he,hC2,hg2⟩
 rw[H63.out] at he hC2
 subst he
 have hU2:Obk w2 (w.heap.size+2) 119 (zbr { zfP with frag:=fr,hf:=bf }):=((HU1.out.put 4 _).put 8 _).other hg2 (by omega)
 have hR2:=((HR1.out.st (w.heap.size+2) 4 _ (by omega)).st (w.heap.size+2) 8 _ (by omega)).other hg2 (by omega)
 have hq2:Qb w w2:=((hq1.st (w.heap.size+2) 4 _ (by omega)).st (w.heap.size+2) 8 _ (by omega)).turned hg2 (by omega)
 have hz2:w.heap.size+3≤w2.heap.size:=by have:=hg2.size;simp[World.setCell] at this;omega
 have c3:w2.cell? ⟨w.heap.size+2,3,none⟩=some (.string (S [])):=hU2.cell 3
 have c7:w2.cell? ⟨w.heap.size+2,7,none⟩=some (.bool false):=hU2.cell 7
 have cc:w2.cell? ⟨w.heap.size+1,0,none⟩=some (.string (S l2)):=hC2.cell 0
 have f3:=hU2.frozen 3
 have f7:=hU2.frozen 7
 have HU2:=Lib.hid hU2
 have HR2:=Lib.hid hR2
 have HC2:=Lib.hid hC2
 clear hU2 hR2 hC2 hg1 c4 c8 f4 f8
 go_wp2_with fail
 refine(ziP (S l2) _ (by unfold maxLen;rw[zac];omega)).mono ?_
 rintro e w3 ⟨rfl,hq3⟩
 rw[zab]
 have hU3:Obk w3 (w.heap.size+2) 119 (zbr { zfP with frag:=fr,hf:=bf,query:=qu,hq:=bq }):=((HU2.out.put 3 _).put 7 _).qb hq3
 have hR3:Obk w3 w.heap.size 119 (zbr zfP):=((HR2.out.st (w.heap.size+2) 3 _ (by omega)).st (w.heap.size+2) 7 _ (by omega)).qb hq3
 have hC3:Obk w3 (w.heap.size+1) 9 #[.string (S l2)]:=((HC2.out.st (w.heap.size+2) 3 _ (by omega)).st (w.heap.size+2) 7 _ (by omega)).qb hq3
 have hqw:Qb w w3:=((hq2.st (w.heap.size+2) 3 _ (by omega)).st (w.heap.size+2) 7 _ (by omega)).trans hq3
 have hz3:w.heap.size+3≤w3.heap.size:=by have:=hq3.size;simp[World.setCell] at this;omega
 clear hg2 c3 c7 cc f3 f7 hq1 hq2 hq3 HU1 HR1 HC1 HU2 HR2 HC2 hz1 hz2
 rcases zbs 58 (zau l2) with ⟨i1,i2,_⟩|⟨k,i1,i2,i3,_⟩
 ·have HI:=Lib.hid i1
  have hcut:zbB s.data.toList=(zau l2,[],false):=by rw[HS.out,i2]
  have hhier:zd9 s.data.toList=l2:=by unfold zd9;rw[hcut,HB.out];rfl
  have HF0:∀b,zbN l2=b→zaw s.data.toList=(0,{ scheme:=[],auth:=zbh l2,path:=zbC l2,query:=qu,frag:=fr,hs:=false,ha:=b,hq:=bq,hf:=bf }):=fun b hb=>by
   rw[HE.out,hcut,hhier,hb];rfl
  have HFH:=Lib.hid HF0
  rw[HI.out]
  clear i1 i2 hcut hhier HF0
  have hU:=hU3
  have hR:=hR3
  have hC:=hC3
  clear hU3 hR3 hC3
  have cc:w3.cell? ⟨w.heap.size+1,0,none⟩=some (.string (S l2)):=hC.cell 0
  rcases h2:zbN l2 with _|_
  ·have HF:=Lib.hid (HFH.out false h2)
   have hau:zbh l2=[]:=by unfold zbh;rw[h2];rfl
   have hpa:zbC l2=l2:=by unfold zbC;rw[h2];rfl
   rw[hau,hpa] at HF
   have H2:=Lib.hid h2
   have u0:w3.cell? ⟨w.heap.size+2,0,none⟩=some (.string (S [])):=hU.cell 0
   have uf0:w3.frozen? ⟨w.heap.size+2,0,none⟩=false:=hU.frozen 0
   have u1:w3.cell? ⟨w.heap.size+2,1,none⟩=some (.string (S [])):=hU.cell 1
   have uf1:w3.frozen? ⟨w.heap.size+2,1,none⟩=false:=hU.frozen 1
   have u2:w3.cell? ⟨w.heap.size+2,2,none⟩=some (.string (S [])):=hU.cell 2
   have uf2:w3.frozen? ⟨w.heap.size+2,2,none⟩=false:=hU.frozen 2
   have u3:w3.cell? ⟨w.heap.size+2,3,none⟩=some (.string (S qu)):=hU.cell 3
   have uf3:w3.frozen? ⟨w.heap.size+2,3,none⟩=false:=hU.frozen 3
   have u4:w3.cell? ⟨w.heap.size+2,4,none⟩=some (.string (S fr)):=hU.cell 4
   have uf4:w3.frozen? ⟨w.heap.size+2,4,none⟩=false:=hU.frozen 4
   have u5:w3.cell? ⟨w.heap.size+2,5,none⟩=some (.bool false):=hU.cell 5
   have uf5:w3.frozen? ⟨w.heap.size+2,5,none⟩=false:=hU.frozen 5
   have u6:w3.cell? ⟨w.heap.size+2,6,none⟩=some (.bool false):=hU.cell 6
   have uf6:w3.frozen? ⟨w.heap.size+2,6,none⟩=false:=hU.frozen 6
   have u7:w3.cell? ⟨w.heap.size+2,7,none⟩=some (.bool bq):=hU.cell 7
   have uf7:w3.frozen? ⟨w.heap.size+2,7,none⟩=false:=hU.frozen 7
   have u8:w3.cell? ⟨w.heap.size+2,8,none⟩=some (.bool bf):=hU.cell 8
   have uf8:w3.frozen? ⟨w.heap.size+2,8,none⟩=false:=hU.frozen 8
   have r0:w3.cell? ⟨w.heap.size,0,none⟩=some (.string (S [])):=hR.cell 0
   have rf0:w3.frozen? ⟨w.heap.size,0,none⟩=false:=hR.frozen 0
   have r1:w3.cell? ⟨w.heap.size,1,none⟩=some (.string (S [])):=hR.cell 1
   have rf1:w3.frozen? ⟨w.heap.size,1,none⟩=false:=hR.frozen 1
   have r2:w3.cell? ⟨w.heap.size,2,none⟩=some (.string (S [])):=hR.cell 2
   have rf2:w3.frozen? ⟨w.heap.size,2,none⟩=false:=hR.frozen 2
   have r3:w3.cell? ⟨w.heap.size,3,none⟩=some (.string (S [])):=hR.cell 3
   have rf3:w3.frozen? ⟨w.heap.size,3,none⟩=false:=hR.frozen 3
   have r4:w3.cell? ⟨w.heap.size,4,none⟩=some (.string (S [])):=hR.cell 4
   have rf4:w3.frozen? ⟨w.heap.size,4,none⟩=false:=hR.frozen 4
   have r5:w3.cell? ⟨w.heap.size,5,none⟩=some (.bool false):=hR.cell 5
   have rf5:w3.frozen? ⟨w.heap.size,5,none⟩=false:=hR.frozen 5
   have r6:w3.cell? ⟨w.heap.size,6,none⟩=some (.bool false):=hR.cell 6
   have rf6:w3.frozen? ⟨w.heap.size,6,none⟩=false:=hR.frozen 6
   have r7:w3.cell? ⟨w.heap.size,7,none⟩=some (.bool false):=hR.cell 7
   have rf7:w3.frozen? ⟨w.heap.size,7,none⟩=false:=hR.frozen 7
   have r8:w3.cell? ⟨w.heap.size,8,none⟩=some (.bool false):=hR.cell 8
   have rf8:w3.frozen? ⟨w.heap.size,8,none⟩=false:=hR.frozen 8
   have HU:=Lib.hid hU
   have HR:=Lib.hid hR
   clear h2 hau hpa hU hR
   go_wp2_with fail
   refine(Tryz.strings_CutPrefix _ _ _).mono ?_
   rintro e w4 ⟨rfl,rfl⟩
   rw[zab,show Lib.hasPrefix l2 [47,47]=false from H2.out]
   go_wp2_with fail
   exact bodyPost_ret (v:=zlZ (0,⟨[],[],l2,qu,fr,false,false,bq,bf⟩)) (by simp[results,Tryz.results123,go_sem,zlZ,uriA,zbr,r0,r1,r2,r3,r4,r5,r6,r7,r8,rf0,rf1,rf2,rf3,rf4,rf5,rf6,rf7,rf8]) rfl ⟨by rw[HF.out],((((((((((hqw.st (w.heap.size+2) 2 _ (by omega)).st w.heap.size 0 _ (by omega)).st w.heap.size 1 _ (by omega)).st w.heap.size 2 _ (by omega)).st w.heap.size 3 _ (by omega)).st w.heap.size 4 _ (by omega)).st w.heap.size 5 _ (by omega)).st w.heap.size 6 _ (by omega)).st w.heap.size 7 _ (by omega)).st w.heap.size 8 _ (by omega))⟩
  ·have hln:=zbA h2
   have htp:=Lib.hid (zh2 h2)
   have HF:=Lib.hid (HFH.out true h2)
   have hau:zbh l2=zau (l2.drop 2):=by unfold zbh;rw[h2];rfl
   have hpa:zbC l2=(l2.drop 2).drop (zau (l2.drop 2)).length:=by unfold zbC;rw[h2,hau];rfl
   rw[hau,hpa] at HF
   have hfp:=(zaI (l2.drop 2)).2
   have hdl:(l2.drop 2).length≤16384:=by rw[List.length_drop];omega
   have H2:=Lib.hid h2
   have HX1:=zaB (S (l2.drop 2)) (zau (l2.drop 2)).length
   rw[zac,zab] at HX1
   have HX:=Lib.hid HX1
   clear h2 hau hpa HX1
   generalize l2.drop 2=d at *
   generalize hga:zau d=a at *
   have HA:=Lib.hid hga
   clear hga
   have HU:=Lib.hid hU
   have HR:=Lib.hid hR
   have HC:=Lib.hid hC
   clear hU hR hC
   go_wp2_with fail
   refine(Tryz.strings_CutPrefix _ _ _).mono ?_
   rintro e w4 ⟨rfl,rfl⟩
   rw[zab,show Lib.hasPrefix l2 [47,47]=true from H2.out,show Lib.trimPrefix l2 [47,47]=d from htp.out]
   go_wp2_with fail
   refine(zc4 (S d) _ (by unfold maxLen;rw[zac];omega)).mono ?_
   rintro e w5 ⟨rfl,hq5⟩
   rw[zab,HA.out]
   have hU:=HU.out.qb hq5
   have hR:=HR.out.qb hq5
   have hC:=HC.out.qb hq5
   have hqv:=hqw.trans hq5
   have cc5:w5.cell? ⟨w.heap.size+1,0,none⟩=some (.string (S l2)):=hC.cell 0
   have cf5:w5.frozen? ⟨w.heap.size+1,0,none⟩=false:=hC.frozen 0
   have u0:w5.cell? ⟨w.heap.size+2,0,none⟩=some (.string (S [])):=hU.cell 0
   have uf0:w5.frozen? ⟨w.heap.size+2,0,none⟩=false:=hU.frozen 0
   have u1:w5.cell? ⟨w.heap.size+2,1,none⟩=some (.string (S [])):=hU.cell 1
   have uf1:w5.frozen? ⟨w.heap.size+2,1,none⟩=false:=hU.frozen 1
   have u2:w5.cell? ⟨w.heap.size+2,2,none⟩=some (.string (S [])):=hU.cell 2
   have uf2:w5.frozen? ⟨w.heap.size+2,2,none⟩=false:=hU.frozen 2
   have u3:w5.cell? ⟨w.heap.size+2,3,none⟩=some (.string (S qu)):=hU.cell 3
   have uf3:w5.frozen? ⟨w.heap.size+2,3,none⟩=false:=hU.frozen 3
   have u4:w5.cell? ⟨w.heap.size+2,4,none⟩=some (.string (S fr)):=hU.cell 4
   have uf4:w5.frozen? ⟨w.heap.size+2,4,none⟩=false:=hU.frozen 4
   have u5:w5.cell? ⟨w.heap.size+2,5,none⟩=some (.bool false):=hU.cell 5
   have uf5:w5.frozen? ⟨w.heap.size+2,5,none⟩=false:=hU.frozen 5
   have u6:w5.cell? ⟨w.heap.size+2,6,none⟩=some (.bool false):=hU.cell 6
   have uf6:w5.frozen? ⟨w.heap.size+2,6,none⟩=false:=hU.frozen 6
   have u7:w5.cell? ⟨w.heap.size+2,7,none⟩=some (.bool bq):=hU.cell 7
   have uf7:w5.frozen? ⟨w.heap.size+2,7,none⟩=false:=hU.frozen 7
   have u8:w5.cell? ⟨w.heap.size+2,8,none⟩=some (.bool bf):=hU.cell 8
   have uf8:w5.frozen? ⟨w.heap.size+2,8,none⟩=false:=hU.frozen 8
   have r0:w5.cell? ⟨w.heap.size,0,none⟩=some (.string (S [])):=hR.cell 0
   have rf0:w5.frozen? ⟨w.heap.size,0,none⟩=false:=hR.frozen 0
   have r1:w5.cell? ⟨w.heap.size,1,none⟩=some (.string (S [])):=hR.cell 1
   have rf1:w5.frozen? ⟨w.heap.size,1,none⟩=false:=hR.frozen 1
   have r2:w5.cell? ⟨w.heap.size,2,none⟩=some (.string (S [])):=hR.cell 2
   have rf2:w5.frozen? ⟨w.heap.size,2,none⟩=false:=hR.frozen 2
   have r3:w5.cell? ⟨w.heap.size,3,none⟩=some (.string (S [])):=hR.cell 3
   have rf3:w5.frozen? ⟨w.heap.size,3,none⟩=false:=hR.frozen 3
   have r4:w5.cell? ⟨w.heap.size,4,none⟩=some (.string (S [])):=hR.cell 4
   have rf4:w5.frozen? ⟨w.heap.size,4,none⟩=false:=hR.frozen 4
   have r5:w5.cell? ⟨w.heap.size,5,none⟩=some (.bool false):=hR.cell 5
   have rf5:w5.frozen? ⟨w.heap.size,5,none⟩=false:=hR.frozen 5
   have r6:w5.cell? ⟨w.heap.size,6,none⟩=some (.bool false):=hR.cell 6
   have rf6:w5.frozen? ⟨w.heap.size,6,none⟩=false:=hR.frozen 6
   have r7:w5.cell? ⟨w.heap.size,7,none⟩=some (.bool false):=hR.cell 7
   have rf7:w5.frozen? ⟨w.heap.size,7,none⟩=false:=hR.frozen 7
   have r8:w5.cell? ⟨w.heap.size,8,none⟩=some (.bool false):=hR.cell 8
   have rf8:w5.frozen? ⟨w.heap.size,8,none⟩=false:=hR.frozen 8
   clear HU HR HC hU hR hC cc hq5
   have e1:(S d).extract a.length d.length=S (d.drop a.length):=HX.out
   go_wp2_with fail
   exact bodyPost_ret (v:=zlZ (0,⟨[],a,(d.drop a.length),qu,fr,false,true,bq,bf⟩)) (by simp[results,Tryz.results123,go_sem,zlZ,uriA,zbr,r0,r1,r2,r3,r4,r5,r6,r7,r8,rf0,rf1,rf2,rf3,rf4,rf5,rf6,rf7,rf8]) rfl ⟨by rw[HF.out],(((((((((((((hqv.st (w.heap.size+2) 1 _ (by omega)).st (w.heap.size+2) 6 _ (by omega)).st (w.heap.size+1) 0 _ (by omega)).st (w.heap.size+2) 2 _ (by omega)).st w.heap.size 0 _ (by omega)).st w.heap.size 1 _ (by omega)).st w.heap.size 2 _ (by omega)).st w.heap.size 3 _ (by omega)).st w.heap.size 4 _ (by omega)).st w.heap.size 5 _ (by omega)).st w.heap.size 6 _ (by omega)).st w.heap.size 7 _ (by omega)).st w.heap.size 8 _ (by omega))⟩
 ·have hk2:k<l2.length:=by omega
  have hkf:(zau l2).take k=l2.take k:=by
   have h1:=(zaI l2).1
   rw[h1,List.take_take,Nat.min_eq_left (by omega)]
  rw[hkf] at i3
  have hcut:zbB s.data.toList=(l2.take k,(zau l2).drop (k+1),true):=by rw[HS.out,i3]
  have hE1:=zbb (S l2) k
  rw[zab] at hE1
  have E1:=Lib.hid hE1
  have HI:=Lib.hid i1
  rw[HI.out]
  rcases hsb:zbU (l2.take k) with _|_
  ·have HF:Hid (zaw s.data.toList=(6,zfP)):=Lib.hid (by rw[HE.out,hcut];simp only;rw[hsb];rfl)
   have HSB:=Lib.hid hsb
   have cc:w3.cell? ⟨w.heap.size+1,0,none⟩=some (.string (S l2)):=hC3.cell 0
   have r0:w3.cell? ⟨w.heap.size,0,none⟩=some (.string (S [])):=hR3.cell 0
   have rf0:w3.frozen? ⟨w.heap.size,0,none⟩=false:=hR3.frozen 0
   have r1:w3.cell? ⟨w.heap.size,1,none⟩=some (.string (S [])):=hR3.cell 1
   have rf1:w3.frozen? ⟨w.heap.size,1,none⟩=false:=hR3.frozen 1
   have r2:w3.cell? ⟨w.heap.size,2,none⟩=some (.string (S [])):=hR3.cell 2
   have rf2:w3.frozen? ⟨w.heap.size,2,none⟩=false:=hR3.frozen 2
   have r3:w3.cell? ⟨w.heap.size,3,none⟩=some (.string (S [])):=hR3.cell 3
   have rf3:w3.frozen? ⟨w.heap.size,3,none⟩=false:=hR3.frozen 3
   have r4:w3.cell? ⟨w.heap.size,4,none⟩=some (.string (S [])):=hR3.cell 4
   have rf4:w3.frozen? ⟨w.heap.size,4,none⟩=false:=hR3.frozen 4
   have r5:w3.cell? ⟨w.heap.size,5,none⟩=some (.bool false):=hR3.cell 5
   have rf5:w3.frozen? ⟨w.heap.size,5,none⟩=false:=hR3.frozen 5
   have r6:w3.cell? ⟨w.heap.size,6,none⟩=some (.bool false):=hR3.cell 6
   have rf6:w3.frozen? ⟨w.heap.size,6,none⟩=false:=hR3.frozen 6
   have r7:w3.cell? ⟨w.heap.size,7,none⟩=some (.bool false):=hR3.cell 7
   have rf7:w3.frozen? ⟨w.heap.size,7,none⟩=false:=hR3.frozen 7
   have r8:w3.cell? ⟨w.heap.size,8,none⟩=some (.bool false):=hR3.cell 8
   have rf8:w3.frozen? ⟨w.heap.size,8,none⟩=false:=hR3.frozen 8
   clear i1 i3 hcut hkf hE1 hsb hU3 hR3 hC3
   go_wp2_with fail
   rw[E1.out]
   refine(zgp _ _ (by unfold maxLen;rw[zac,List.length_take];omega)).mono ?_
   rintro e w4 ⟨rfl,rfl⟩
   rw[zab,HSB.out]
   go_wp2_with fail
   exact bodyPost_ret (v:=zlZ (6,zfP)) (by simp[results,Tryz.results123,go_sem,zlZ,uriA,zbr,zfP,r0,r1,r2,r3,r4,r5,r6,r7,r8,rf0,rf1,rf2,rf3,rf4,rf5,rf6,rf7,rf8]) rfl ⟨by rw[HF.out],(((((((((hqw.st w.heap.size 0 _ (by omega)).st w.heap.size 1 _ (by omega)).st w.heap.size 2 _ (by omega)).st w.heap.size 3 _ (by omega)).st w.heap.size 4 _ (by omega)).st w.heap.size 5 _ (by omega)).st w.heap.size 6 _ (by omega)).st w.heap.size 7 _ (by omega)).st w.heap.size 8 _ (by omega))⟩
  ·have HSB:=Lib.hid hsb
   have hlt:(l2.take k).length=k:=by rw[List.length_take];omega
   have hhier:zd9 s.data.toList=l2.drop (k+1):=by unfold zd9;rw[hcut,HB.out,if_pos rfl,hlt]
   have HF0:∀b,zbN (l2.drop (k+1))=b→zaw s.data.toList=(0,{ scheme:=l2.take k,auth:=zbh (l2.drop (k+1)),path:=zbC (l2.drop (k+1)),query:=qu,frag:=fr,hs:=true,ha:=b,hq:=bq,hf:=bf }):=fun b hb=>by
    rw[HE.out,hcut,hhier,hb];simp only;rw[hsb];rfl
   have HFH:=Lib.hid HF0
   have hE2:=zaB (S l2) (k+1)
   rw[zab,zac] at hE2
   have E2:=Lib.hid hE2
   have cc:w3.cell? ⟨w.heap.size+1,0,none⟩=some (.string (S l2)):=hC3.cell 0
   have cf:w3.frozen? ⟨w.heap.size+1,0,none⟩=false:=hC3.frozen 0
   have u0:w3.cell? ⟨w.heap.size+2,0,none⟩=some (.string (S [])):=hU3.cell 0
   have u5:w3.cell? ⟨w.heap.size+2,5,none⟩=some (.bool false):=hU3.cell 5
   have uf0:=hU3.frozen 0
   have uf5:=hU3.frozen 5
   have HU3:=Lib.hid hU3
   have HR3:=Lib.hid hR3
   have HC3:=Lib.hid hC3
   have q0:(0:Int)≤(k:Int):=by omega
   have q1:IntKind.i64.wrap ((k:Int)+1)=(k:Int)+1:=IntWalk.i64_in _ (by omega)
   have q2:(0:Int)≤(k:Int)+1:=by omega
   have q3:((k:Int)+1).toNat=k+1:=by omega
   have q4:(k:Int)+1≤(l2.length:Int):=by omega
   have q5:(k:Int)≤(l2.length:Int):=by omega
   clear i1 i3 hcut hkf hE1 hE2 hsb hU3 hR3 hC3 HF0 hhier hlt
   go_wp2_with fail
   rw[E1.out]
   refine(zgp _ _ (by unfold maxLen;rw[zac,List.length_take];omega)).mono ?_
   rintro e w4 ⟨rfl,rfl⟩
   rw[zab,HSB.out]
   go_wp2_with fail
   go_region
   rw[E1.out,E2.out]
   have hU5:Obk ((((w3.setCell ⟨w.heap.size+1+1,0,none⟩ (.string (S (l2.take k)))).setCell ⟨w.heap.size+1+1,5,none⟩ (.bool true)).setCell ⟨w.heap.size+1,0,none⟩ (.string (S (l2.drop (k+1))))).drew) (w.heap.size+2) 119 (zbr { zfP with frag:=fr,hf:=bf,query:=qu,hq:=bq,scheme:=l2.take k,hs:=true }):=(((HU3.out.put 0 _).put 5 _).st (w.heap.size+1) 0 _ (by omega)).drew
   have hR5:Obk ((((w3.setCell ⟨w.heap.size+1+1,0,none⟩ (.string (S (l2.take k)))).setCell ⟨w.heap.size+1+1,5,none⟩ (.bool true)).setCell ⟨w.heap.size+1,0,none⟩ (.string (S (l2.drop (k+1))))).drew) w.heap.size 119 (zbr zfP):=(((HR3.out.st (w.heap.size+2) 0 _ (by omega)).st (w.heap.size+2) 5 _ (by omega)).st (w.heap.size+1) 0 _ (by omega)).drew
   have hC5:Obk ((((w3.setCell ⟨w.heap.size+1+1,0,none⟩ (.string (S (l2.take k)))).setCell ⟨w.heap.size+1+1,5,none⟩ (.bool true)).setCell ⟨w.heap.size+1,0,none⟩ (.string (S (l2.drop (k+1))))).drew) (w.heap.size+1) 9 #[.string (S (l2.drop (k+1)))]:=(((HC3.out.st (w.heap.size+2) 0 _ (by omega)).st (w.heap.size+2) 5 _ (by omega)).put 0 _).drew
   have hqx:Qb w ((((w3.setCell ⟨w.heap.size+1+1,0,none⟩ (.string (S (l2.take k)))).setCell ⟨w.heap.size+1+1,5,none⟩ (.bool true)).setCell ⟨w.heap.size+1,0,none⟩ (.string (S (l2.drop (k+1))))).drew):=(((hqw.st (w.heap.size+2) 0 _ (by omega)).st (w.heap.size+2) 5 _ (by omega)).st (w.heap.size+1) 0 _ (by omega)).drew
   clear cc cf u0 u5 uf0 uf5 HU3 HR3 HC3 hqw q0 q1 q2 q3 q4 q5
   generalize ((((w3.setCell ⟨w.heap.size+1+1,0,none⟩ (.string (S (l2.take k)))).setCell ⟨w.heap.size+1+1,5,none⟩ (.bool true)).setCell ⟨w.heap.size+1,0,none⟩ (.string (S (l2.drop (k+1))))).drew)=W5 at hU5 hR5 hC5 hqx ⊢
   have hqw:=hqx
   have hU:=hU5
   have hR:=hR5
   have hC:=hC5
   have hln5:(l2.drop (k+1)).length≤16384:=by rw[List.length_drop];omega
   generalize l2.drop (k+1)=rr at *
   clear hU5 hR5 hC5 hqx E1 E2 HI HSB
   generalize l2.take k=sc at *
   have cc:W5.cell? ⟨w.heap.size+1,0,none⟩=some (.string (S rr)):=hC.cell 0
   rcases h2:zbN rr with _|_
   ·have HF:=Lib.hid (HFH.out false h2)
    have hau:zbh rr=[]:=by unfold zbh;rw[h2];rfl
    have hpa:zbC rr=rr:=by unfold zbC;rw[h2];rfl
    rw[hau,hpa] at HF
    have H2:=Lib.hid h2
    have u0:W5.cell? ⟨w.heap.size+2,0,none⟩=some (.string (S sc)):=hU.cell 0
    have uf0:W5.frozen? ⟨w.heap.size+2,0,none⟩=false:=hU.frozen 0
    have u1:W5.cell? ⟨w.heap.size+2,1,none⟩=some (.string (S [])):=hU.cell 1
    have uf1:W5.frozen? ⟨w.heap.size+2,1,none⟩=false:=hU.frozen 1
    have u2:W5.cell? ⟨w.heap.size+2,2,none⟩=some (.string (S [])):=hU.cell 2
    have uf2:W5.frozen? ⟨w.heap.size+2,2,none⟩=false:=hU.frozen 2
    have u3:W5.cell? ⟨w.heap.size+2,3,none⟩=some (.string (S qu)):=hU.cell 3
    have uf3:W5.frozen? ⟨w.heap.size+2,3,none⟩=false:=hU.frozen 3
    have u4:W5.cell? ⟨w.heap.size+2,4,none⟩=some (.string (S fr)):=hU.cell 4
    have uf4:W5.frozen? ⟨w.heap.size+2,4,none⟩=false:=hU.frozen 4
    have u5:W5.cell? ⟨w.heap.size+2,5,none⟩=some (.bool true):=hU.cell 5
    have uf5:W5.frozen? ⟨w.heap.size+2,5,none⟩=false:=hU.frozen 5
    have u6:W5.cell? ⟨w.heap.size+2,6,none⟩=some (.bool false):=hU.cell 6
    have uf6:W5.frozen? ⟨w.heap.size+2,6,none⟩=false:=hU.frozen 6
    have u7:W5.cell? ⟨w.heap.size+2,7,none⟩=some (.bool bq):=hU.cell 7
    have uf7:W5.frozen? ⟨w.heap.size+2,7,none⟩=false:=hU.frozen 7
    have u8:W5.cell? ⟨w.heap.size+2,8,none⟩=some (.bool bf):=hU.cell 8
    have uf8:W5.frozen? ⟨w.heap.size+2,8,none⟩=false:=hU.frozen 8
    have r0:W5.cell? ⟨w.heap.size,0,none⟩=some (.string (S [])):=hR.cell 0
    have rf0:W5.frozen? ⟨w.heap.size,0,none⟩=false:=hR.frozen 0
    have r1:W5.cell? ⟨w.heap.size,1,none⟩=some (.string (S [])):=hR.cell 1
    have rf1:W5.frozen? ⟨w.heap.size,1,none⟩=false:=hR.frozen 1
    have r2:W5.cell? ⟨w.heap.size,2,none⟩=some (.string (S [])):=hR.cell 2
    have rf2:W5.frozen? ⟨w.heap.size,2,none⟩=false:=hR.frozen 2
    have r3:W5.cell? ⟨w.heap.size,3,none⟩=some (.string (S [])):=hR.cell 3
    have rf3:W5.frozen? ⟨w.heap.size,3,none⟩=false:=hR.frozen 3
    have r4:W5.cell? ⟨w.heap.size,4,none⟩=some (.string (S [])):=hR.cell 4
    have rf4:W5.frozen? ⟨w.heap.size,4,none⟩=false:=hR.frozen 4
    have r5:W5.cell? ⟨w.heap.size,5,none⟩=some (.bool false):=hR.cell 5
    have rf5:W5.frozen? ⟨w.heap.size,5,none⟩=false:=hR.frozen 5
    have r6:W5.cell? ⟨w.heap.size,6,none⟩=some (.bool false):=hR.cell 6
    have rf6:W5.frozen? ⟨w.heap.size,6,none⟩=false:=hR.frozen 6
    have r7:W5.cell? ⟨w.heap.size,7,none⟩=some (.bool false):=hR.cell 7
    have rf7:W5.frozen? ⟨w.heap.size,7,none⟩=false:=hR.frozen 7
    have r8:W5.cell? ⟨w.heap.size,8,none⟩=some (.bool false):=hR.cell 8
    have rf8:W5.frozen? ⟨w.heap.size,8,none⟩=false:=hR.frozen 8
    have HU:=Lib.hid hU
    have HR:=Lib.hid hR
    clear h2 hau hpa hU hR
    go_wp2_with fail
    refine(Tryz.strings_CutPrefix _ _ _).mono ?_
    rintro e w4 ⟨rfl,rfl⟩
    rw[zab,show Lib.hasPrefix rr [47,47]=false from H2.out]
    go_wp2_with fail
    exact bodyPost_ret (v:=zlZ (0,⟨sc,[],rr,qu,fr,true,false,bq,bf⟩)) (by simp[results,Tryz.results123,go_sem,zlZ,uriA,zbr,r0,r1,r2,r3,r4,r5,r6,r7,r8,rf0,rf1,rf2,rf3,rf4,rf5,rf6,rf7,rf8]) rfl ⟨by rw[HF.out],((((((((((hqw.st (w.heap.size+2) 2 _ (by omega)).st w.heap.size 0 _ (by omega)).st w.heap.size 1 _ (by omega)).st w.heap.size 2 _ (by omega)).st w.heap.size 3 _ (by omega)).st w.heap.size 4 _ (by omega)).st w.heap.size 5 _ (by omega)).st w.heap.size 6 _ (by omega)).st w.heap.size 7 _ (by omega)).st w.heap.size 8 _ (by omega))⟩
   ·have hln:=zbA h2
    have htp:=Lib.hid (zh2 h2)
    have HF:=Lib.hid (HFH.out true h2)
    have hau:zbh rr=zau (rr.drop 2):=by unfold zbh;rw[h2];rfl
    have hpa:zbC rr=(rr.drop 2).drop (zau (rr.drop 2)).length:=by unfold zbC;rw[h2,hau];rfl
    rw[hau,hpa] at HF
    have hfp:=(zaI (rr.drop 2)).2
    have hdl:(rr.drop 2).length≤16384:=by rw[List.length_drop];omega
    have H2:=Lib.hid h2
    have HX1:=zaB (S (rr.drop 2)) (zau (rr.drop 2)).length
    rw[zac,zab] at HX1
    have HX:=Lib.hid HX1
    clear h2 hau hpa HX1
    generalize rr.drop 2=d at *
    generalize hga:zau d=a at *
    have HA:=Lib.hid hga
    clear hga
    have HU:=Lib.hid hU
    have HR:=Lib.hid hR
    have HC:=Lib.hid hC
    clear hU hR hC
    go_wp2_with fail
    refine(Tryz.strings_CutPrefix _ _ _).mono ?_
    rintro e w4 ⟨rfl,rfl⟩
    rw[zab,show Lib.hasPrefix rr [47,47]=true from H2.out,show Lib.trimPrefix rr [47,47]=d from htp.out]
    go_wp2_with fail
    refine(zc4 (S d) _ (by unfold maxLen;rw[zac];omega)).mono ?_
    rintro e w5 ⟨rfl,hq5⟩
    rw[zab,HA.out]
    have hU:=HU.out.qb hq5
    have hR:=HR.out.qb hq5
    have hC:=HC.out.qb hq5
    have hqv:=hqw.trans hq5
    have cc5:w5.cell? ⟨w.heap.size+1,0,none⟩=some (.string (S rr)):=hC.cell 0
    have cf5:w5.frozen? ⟨w.heap.size+1,0,none⟩=false:=hC.frozen 0
    have u0:w5.cell? ⟨w.heap.size+2,0,none⟩=some (.string (S sc)):=hU.cell 0
    have uf0:w5.frozen? ⟨w.heap.size+2,0,none⟩=false:=hU.frozen 0
    have u1:w5.cell? ⟨w.heap.size+2,1,none⟩=some (.string (S [])):=hU.cell 1
    have uf1:w5.frozen? ⟨w.heap.size+2,1,none⟩=false:=hU.frozen 1
    have u2:w5.cell? ⟨w.heap.size+2,2,none⟩=some (.string (S [])):=hU.cell 2
    have uf2:w5.frozen? ⟨w.heap.size+2,2,none⟩=false:=hU.frozen 2
    have u3:w5.cell? ⟨w.heap.size+2,3,none⟩=some (.string (S qu)):=hU.cell 3
    have uf3:w5.frozen? ⟨w.heap.size+2,3,none⟩=false:=hU.frozen 3
    have u4:w5.cell? ⟨w.heap.size+2,4,none⟩=some (.string (S fr)):=hU.cell 4
    have uf4:w5.frozen? ⟨w.heap.size+2,4,none⟩=false:=hU.frozen 4
    have u5:w5.cell? ⟨w.heap.size+2,5,none⟩=some (.bool true):=hU.cell 5
    have uf5:w5.frozen? ⟨w.heap.size+2,5,none⟩=false:=hU.frozen 5
    have u6:w5.cell? ⟨w.heap.size+2,6,none⟩=some (.bool false):=hU.cell 6
    have uf6:w5.frozen? ⟨w.heap.size+2,6,none⟩=false:=hU.frozen 6
    have u7:w5.cell? ⟨w.heap.size+2,7,none⟩=some (.bool bq):=hU.cell 7
    have uf7:w5.frozen? ⟨w.heap.size+2,7,none⟩=false:=hU.frozen 7
    have u8:w5.cell? ⟨w.heap.size+2,8,none⟩=some (.bool bf):=hU.cell 8
    have uf8:w5.frozen? ⟨w.heap.size+2,8,none⟩=false:=hU.frozen 8
    have r0:w5.cell? ⟨w.heap.size,0,none⟩=some (.string (S [])):=hR.cell 0
    have rf0:w5.frozen? ⟨w.heap.size,0,none⟩=false:=hR.frozen 0
    have r1:w5.cell? ⟨w.heap.size,1,none⟩=some (.string (S [])):=hR.cell 1
    have rf1:w5.frozen? ⟨w.heap.size,1,none⟩=false:=hR.frozen 1
    have r2:w5.cell? ⟨w.heap.size,2,none⟩=some (.string (S [])):=hR.cell 2
    have rf2:w5.frozen? ⟨w.heap.size,2,none⟩=false:=hR.frozen 2
    have r3:w5.cell? ⟨w.heap.size,3,none⟩=some (.string (S [])):=hR.cell 3
    have rf3:w5.frozen? ⟨w.heap.size,3,none⟩=false:=hR.frozen 3
    have r4:w5.cell? ⟨w.heap.size,4,none⟩=some (.string (S [])):=hR.cell 4
    have rf4:w5.frozen? ⟨w.heap.size,4,none⟩=false:=hR.frozen 4
    have r5:w5.cell? ⟨w.heap.size,5,none⟩=some (.bool false):=hR.cell 5
    have rf5:w5.frozen? ⟨w.heap.size,5,none⟩=false:=hR.frozen 5
    have r6:w5.cell? ⟨w.heap.size,6,none⟩=some (.bool false):=hR.cell 6
    have rf6:w5.frozen? ⟨w.heap.size,6,none⟩=false:=hR.frozen 6
    have r7:w5.cell? ⟨w.heap.size,7,none⟩=some (.bool false):=hR.cell 7
    have rf7:w5.frozen? ⟨w.heap.size,7,none⟩=false:=hR.frozen 7
    have r8:w5.cell? ⟨w.heap.size,8,none⟩=some (.bool false):=hR.cell 8
    have rf8:w5.frozen? ⟨w.heap.size,8,none⟩=false:=hR.frozen 8
    clear HU HR HC hU hR hC cc hq5
    have e1:(S d).extract a.length d.length=S (d.drop a.length):=HX.out
    go_wp2_with fail
    exact bodyPost_ret (v:=zlZ (0,⟨sc,a,(d.drop a.length),qu,fr,true,true,bq,bf⟩)) (by simp[results,Tryz.results123,go_sem,zlZ,uriA,zbr,r0,r1,r2,r3,r4,r5,r6,r7,r8,rf0,rf1,rf2,rf3,rf4,rf5,rf6,rf7,rf8]) rfl ⟨by rw[HF.out],(((((((((((((hqv.st (w.heap.size+2) 1 _ (by omega)).st (w.heap.size+2) 6 _ (by omega)).st (w.heap.size+1) 0 _ (by omega)).st (w.heap.size+2) 2 _ (by omega)).st w.heap.size 0 _ (by omega)).st w.heap.size 1 _ (by omega)).st w.heap.size 2 _ (by omega)).st w.heap.size 3 _ (by omega)).st w.heap.size 4 _ (by omega)).st w.heap.size 5 _ (by omega)).st w.heap.size 6 _ (by omega)).st w.heap.size 7 _ (by omega)).st w.heap.size 8 _ (by omega))⟩
end Go.Proofs.YtnnipcgblooemaaGreatDoor
namespace Go.Proofs.YtnnipcgblooemaaGreatDoor
open Go.RowKit
def zgh:List UInt8→List UInt8
 | []=>[]
 | x::t=>if x=47 then t else zgh t
def za9 (l:List UInt8):List UInt8:=(zgh l.reverse).reverse
theorem ze7 (l:List UInt8) (x:UInt8):za9 (l++[x])=if x=47 then l else za9 l:=by
 unfold za9
 rw[List.reverse_append,List.reverse_singleton,List.singleton_append,zgh]
 split
 ·simp
 ·rfl
theorem zeI (l:List UInt8):(za9 l).length≤l.length:=by
 have:∀m:List UInt8,(zgh m).length≤m.length:=by
  intro m
  induction m with
  | nil=>exact Nat.le_refl _
  | cons x t ih=>rw[zgh];split<;>simp<;>omega
 unfold za9
 rw[List.length_reverse]
 have:=this l.reverse
 rw[List.length_reverse] at this;exact this
def zfr (l:List UInt8):Nat:=1+(zau (l.drop 1)).length
def zax (i o:List UInt8):List UInt8×List UInt8 :=
 if Lib.hasPrefix i [46,46,47]=true then (i.drop 3,o)
 else if Lib.hasPrefix i [46,47]=true then (i.drop 2,o)
 else if Lib.hasPrefix i [47,46,47]=true then (i.drop 2,o)
 else if i=[47,46] then ([47],o)
 else if Lib.hasPrefix i [47,46,46,47]=true then (i.drop 3,za9 o)
 else if i=[47,46,46] then ([47],za9 o)
 else if i=[46]∨i=[46,46] then ([],o)
 else (i.drop (zfr i),o++i.take (zfr i))
def zjn:Nat→List UInt8→List UInt8→List UInt8
 | 0,i,o=>o
 | n+1,i,o=>if i=[] then o else zjn n (zax i o).1 (zax i o).2
def zcv (i o:List UInt8):List UInt8:=zjn i.length i o
def zaV (l:List UInt8):List UInt8:=zcv l []
theorem zd5 {s p:List UInt8} (h:Lib.hasPrefix s p=true):p.length≤s.length:=(List.isPrefixOf_iff_prefix.1 h).length_le
theorem zla {l:List UInt8} (h:l≠[]):zfr l≤l.length∧1≤zfr l:=by
 have:=(zaI (l.drop 1)).2
 rw[List.length_drop] at this
 have h2:l.length≠0:=fun e=>h (List.eq_nil_of_length_eq_zero e)
 unfold zfr;omega
theorem zaN {i o:List UInt8} (h:i≠[]):(zax i o).1.length<i.length:=by
 have h0:i.length≠0:=fun e=>h (List.eq_nil_of_length_eq_zero e)
 have hs:=zla h
 unfold zax
 split
 ·simp;omega
 ·split
  ·simp;omega
  ·split
   ·simp;omega
   ·split
    ·rename_i h4;rw[h4];simp
    ·split
     ·simp;omega
     ·split
      ·rename_i h6;rw[h6];simp
      ·split
       ·simp;omega
       ·simp;omega
theorem zaJ {i o:List UInt8}:(zax i o).2.length+(zax i o).1.length≤o.length+i.length:=by
 have h1:=zeI o
 unfold zax
 split
 ·simp
 ·split
  ·simp
  ·split
   ·simp
   ·split
    ·rename_i h4;rw[h4];simp
    ·split
     ·simp;omega
     ·split
      ·rename_i h6;rw[h6];simp;omega
      ·split
       ·simp
       ·simp;omega
theorem zom:∀(n:Nat) (i o:List UInt8),i.length≤n→zjn n i o=zjn i.length i o:=by
 intro n
 induction n using Nat.strongRecOn with
 | _ n ih=>
  intro i o hi
  rcases i with _|⟨c,t⟩
  ·cases n with
   | zero=>rfl
   | succ n=>rfl
  ·cases n with
   | zero=>simp at hi
   | succ n=>
    have hl:=zaN (i:=c::t) (o:=o) (by simp)
    simp only[List.length_cons] at hi hl ⊢
    rw[zjn,zjn,if_neg (by simp),if_neg (by simp),ih n (by omega) _ _ (by omega)]
    by_cases e:t.length=n
    ·subst e
     rw[ih t.length (by omega) _ _ (by omega)]
    ·rw[ih t.length (by omega) _ _ (by omega)]
theorem zez (o:List UInt8):zcv [] o=o:=rfl
theorem zaM {i o:List UInt8} (h:i≠[]):zcv i o=zcv (zax i o).1 (zax i o).2:=by
 have hl:=zaN (o:=o) h
 unfold zcv
 rcases i with _|⟨c,t⟩
 ·exact absurd rfl h
 ·simp only[List.length_cons] at hl
  rw[List.length_cons,zjn,if_neg h,zom t.length _ _ (by omega)]
theorem zgj (s:ByteArray) (w:World) (hs:s.size≤maxLen) :
  Calls Tryz.prog 114 #[.string s] w fun e w'=>e=.returned (.string (S (za9 s.data.toList)))∧w=w':=by
 unfold maxLen at hs
 go_enter Tryz.func114,Tryz.ntmps114
 go_wp2_with fail
 go_loop [3] (fun i=>∃k:Nat,k≤s.size∧i=.int .i64 ((k:Int) - 1)∧Hid (za9 s.data.toList=za9 (s.data.toList.take k))) (fun i=>(intOf i+1).toNat)
 case atStart=>exact⟨s.size,Nat.le_refl _,rfl,Lib.hid (by rw[List.take_of_length_le (by rw[zaa];omega)])⟩
 case round=>
  obtain⟨k,hk,rfl,HT⟩:=hrel
  rcases k with _|k
  ·go_wp2_with fail
   go_ret
   exact⟨zfw (by rw[HT.out];rfl),rfl⟩
  ·have hlt:k<s.size:=by omega
   have hst:=ze7 (s.data.toList.take k) s[k]
   rw[←zcq s k hlt] at hst
   have e1:(((k+1:Nat):Int) - 1)=(k:Int):=by omega
   by_cases hc:s[k]=47
   ·have hb:((s[k].toNat:Int)==47)=true:=by rw[hc];rfl
    have HN:Hid (za9 s.data.toList=s.data.toList.take k):=Lib.hid (by rw[HT.out,hst,if_pos hc])
    have HX:=Lib.hid (zbb s k)
    clear hst hc
    rw[e1]
    clear e1
    go_wp2_with fail
    go_ret
    exact⟨zeo (by rw[HX.out,HN.out]),rfl⟩
   ·have hb:((s[k].toNat:Int)==47)=false:=by
     rw[beq_eq_false_iff_ne];intro e;exact hc (UInt8.toNat_inj.1 (by show s[k].toNat=47;omega))
    have HN:Hid (za9 s.data.toList=za9 (s.data.toList.take k)):=Lib.hid (by rw[HT.out,hst,if_neg hc])
    clear hst hc
    rw[e1]
    clear e1
    go_wp2_with fail
    go_round
    case rel=>exact⟨k,by omega,rfl,HN⟩
    case measure=>simp[intOf]
end Go.Proofs.YtnnipcgblooemaaGreatDoor
namespace Go.Proofs.YtnnipcgblooemaaGreatDoor
open Go.RowKit
theorem zgW {w:World} {ops:Array Oper} {o:Oper} {a:Act} {K:Act→World→Prop} {Q:Exit→Act→World→Prop} {E:Prop} (hgd:o.guard=none) (sl x:Operand)
  (ho:o.op=.call { callee:=.builtin .append,args:=#[sl,x],argTypes:=#[29,9] })
  (B:Nat) (v:Value) (l:List UInt8) (hs:a.eval sl=v) (hrow:zci w B v l) (s:ByteArray) (hx:a.eval x=.string s)
  (hlen:l.length+s.size≤140737488355328) (hB:B≤w.heap.size)
  (h:∀v' w',zci w' B v' (l++s.data.toList)→Below B w w'→K (a.put o.dst v') w'):if Region.wanted o (yielded ops a.tmps)=true then Oper.wp Tryz.prog o a w K Q else E:=by
 have hw:Region.wanted o (yielded ops a.tmps)=true:=by simp[Region.wanted,hgd]
 rw[if_pos hw]
 obtain⟨i0,hi,hz0,hz1,hz2⟩:=info_parts zkt
 obtain⟨v',w',hrun,h1,h2,_⟩:=Lib.run_append_own_string (P:=Tryz.prog) w B 29 9 o.type 5 i0 Tryz.underlying29 Tryz.underlying9 hi hz0 hz1 hz2 v l.length (bv l) hrow s (by simp only[maxLen];omega) hlen hB
 unfold Oper.wp execOp
 simp only[ho,resolve,invoke,builtin,Sem.run_bind,Sem.run_pure,Result.andThen_ok,List.map_toArray,List.map_cons,List.map_nil,hs,hx,hrun]
 exact h v' w' (zci.appended h1 (by rw[zgV,zfH]) (by rw[List.length_append,zaa])) (zdE hrow hB h2)
theorem zci.form {w:World} {B:Nat} {v:Value} {l:List UInt8} (h:zci w B v l) (hl:0<l.length):∃g cap,v=.slice (some ⟨g,0,none⟩) l.length cap∧B≤g∧g<w.heap.size∧l.length≤cap:=by
 rcases h.2 with ⟨rfl,hn⟩|⟨g,cap,cur,rfl,hb,hg,hnc,_⟩
 ·omega
 ·refine⟨g,cap,rfl,hb,?_,hnc⟩
  rcases Nat.lt_or_ge g w.heap.size with h1|h1
  ·exact h1
  ·rw[Array.getElem?_eq_none h1] at hg;cases hg
theorem zci.cap {w:World} {B g n cap:Nat} {l:List UInt8} (h:zci w B (.slice (some ⟨g,0,none⟩) n cap) l):n=l.length∧n≤cap∧cap≤maxLen:=by
 rcases h.2 with ⟨e,_⟩|⟨g',cap',cur,e,hb,hg,hnc,hcm,_⟩
 ·simp at e
 ·simp only[Value.slice.injEq] at e
  obtain⟨_,rfl,rfl⟩:=e
  exact⟨rfl,hnc,hcm⟩
theorem zci.pre {w:World} {B g n cap:Nat} {l:List UInt8} (h:zci w B (.slice (some ⟨g,0,none⟩) n cap) l) (k:Nat) (hk:k≤l.length):zci w B (.slice (some ⟨g,0,none⟩) k cap) (l.take k):=by
 rcases h.2 with ⟨e,_⟩|⟨g',cap',cur,e,hb,hg,hnc,hcm,hcs,ht⟩
 ·simp at e
 ·simp only[Value.slice.injEq] at e
  obtain⟨hgg,rfl,rfl⟩:=e
  obtain rfl:g=g':=by simpa using hgg
  have hlen:(l.take k).length=k:=by rw[List.length_take];omega
  refine⟨by rw[zeC];simp,.inr ⟨g,cap,cur,by rw[hlen],hb,hg,by rw[hlen];omega,hcm,hcs,?_⟩⟩
  rw[hlen]
  have:=congrArg (List.take k) ht
  rw[Nat.mul_one] at this ⊢
  rw[List.take_take,Nat.min_eq_left hk] at this
  rw[this]
  simp[bv,List.map_take]
theorem zg0 (l:List UInt8):za9 l=l.take (za9 l).length:=by
 have:∀(n:Nat) (l:List UInt8),l.length≤n→za9 l=l.take (za9 l).length:=by
  intro n
  induction n with
  | zero=>
   intro l hl
   obtain rfl:l=[]:=List.eq_nil_of_length_eq_zero (by omega)
   rfl
  | succ n ih=>
   intro l hl
   rcases List.eq_nil_or_concat l with rfl|⟨t,x,rfl⟩
   ·rfl
   ·rw[List.concat_eq_append] at hl ⊢
    rw[ze7]
    by_cases hx:x=47
    ·rw[if_pos hx];simp
    ·rw[if_neg hx]
     have h1:=ih t (by simp at hl;omega)
     have h2:=zeI t
     rw[List.take_append_of_le_length h2]
     exact h1
 exact this _ l (Nat.le_refl _)
theorem zek (g cap B:Nat) (l:List UInt8) (w:World) (hrow:zci w B (.slice (some ⟨g,0,none⟩) l.length cap) l) (hl:l.length≤1000000) :
  Calls Tryz.prog 184 #[.slice (some ⟨g,0,none⟩) l.length cap] w fun e w'=>e=.returned (.slice (some ⟨g,0,none⟩) (za9 l).length cap)∧w=w':=by
 obtain⟨_,hc1,hc2⟩:=hrow.cap
 unfold maxLen at hc2
 have HR:=Lib.hid hrow
 clear hrow
 go_enter Tryz.func184,Tryz.ntmps184
 go_wp2_with fail
 go_loop [3] (fun i=>∃k:Nat,k≤l.length∧i=.int .i64 ((k:Int) - 1)∧Hid (za9 l=za9 (l.take k))) (fun i=>(intOf i+1).toNat)
 case atStart=>exact⟨l.length,Nat.le_refl _,rfl,Lib.hid (by rw[List.take_length])⟩
 case round=>
  obtain⟨k,hk,rfl,HT⟩:=hrel
  rcases k with _|k
  ·go_wp2_with fail
   go_ret
   exact⟨by rw[HT.out];rfl,rfl⟩
  ·have hlt:k<l.length:=by omega
   have hst:=ze7 (l.take k) l[k]
   rw[←List.take_succ_eq_append_getElem hlt] at hst
   have hcell:=HR.out.cell k hlt
   have e1:(((k+1:Nat):Int) - 1)=(k:Int):=by omega
   have hkl:(l.take k).length=k:=by rw[List.length_take];omega
   generalize l[k]=x at *
   by_cases hc:x=47
   ·have hb:((x.toNat:Int)==47)=true:=by rw[hc];rfl
    have HN:Hid ((za9 l).length=k):=Lib.hid (by rw[HT.out,hst,if_pos hc,hkl])
    clear hst hc hkl
    rw[e1]
    clear e1
    go_wp2_with fail
    go_ret
    exact⟨by rw[HN.out];rfl,rfl⟩
   ·have hb:((x.toNat:Int)==47)=false:=by
     rw[beq_eq_false_iff_ne];intro e;exact hc (UInt8.toNat_inj.1 (by show x.toNat=47;omega))
    have HN:Hid (za9 l=za9 (l.take k)):=Lib.hid (by rw[HT.out,hst,if_neg hc])
    clear hst hc hkl
    rw[e1]
    clear e1
    go_wp2_with fail
    go_round
    case rel=>exact⟨k,by omega,rfl,HN⟩
    case measure=>simp[intOf]
end Go.Proofs.YtnnipcgblooemaaGreatDoor
namespace Go.Proofs.YtnnipcgblooemaaGreatDoor
open Go.RowKit
theorem zaq {l m:List UInt8} (h:(l==m)=false):¬l=m:=by rw[beq_eq_false_iff_ne] at h;exact h
set_option maxHeartbeats 8000000 in
theorem zpB (s:ByteArray) (w:World) (hs:s.size≤1000000) :
  Calls Tryz.prog 84 #[.string s] w fun e w'=>e=.returned (.string (S (zaV s.data.toList)))∧Qb w w':=by
 go_enter Tryz.func84,Tryz.ntmps84
 go_wp2_with fail
 go_loopw [3,4,5] (fun x y _ wr=>∃i o:List UInt8,o.length+i.length≤s.size∧x=.string (S i)∧y=.string (S o)∧Hid (zaV s.data.toList=zcv i o)∧Qb w wr) (fun x _ _ _=>zoT x)
 case atStart=>exact⟨s.data.toList,[],by rw[zaa];simp,rfl,rfl,Lib.hid rfl,Qb.refl w⟩
 case round=>
  obtain⟨i,o,hl,rfl,rfl,HD,hq⟩:=hrel
  rcases i with _|⟨c,t⟩
  ·go_wp2_with fail
   go_ret
   exact⟨zfw (by rw[HD.out,zez]),hq⟩
  ·generalize hi:c::t=i at *
   have hi0:i≠[]:=by rw[←hi];simp
   have hne:i.isEmpty=false:=by rw[←hi];rfl
   clear hi
   have hml:(S i).size≤maxLen:=by unfold maxLen;rw[zac];omega
   have hil:i.length≤1000000:=by omega
   have hol:o.length≤1000000:=by omega
   rcases p1:Lib.hasPrefix i [46,46,47] with _|_
   ·rcases p2:Lib.hasPrefix i [46,47] with _|_
    ·rcases p3:Lib.hasPrefix i [47,46,47] with _|_
     ·rcases e4:(i==[47,46]) with _|_
      ·rcases p5:Lib.hasPrefix i [47,46,46,47] with _|_
       ·rcases e6:(i==[47,46,46]) with _|_
        ·rcases e7:(i==[46]) with _|_
         ·rcases e8:(i==[46,46]) with _|_
          ·have HS:Hid (zax i o=(i.drop (zfr i),o++i.take (zfr i))):=Lib.hid (by unfold zax;rw[if_neg (by rw[p1];exact Bool.false_ne_true),if_neg (by rw[p2];exact Bool.false_ne_true),if_neg (by rw[p3];exact Bool.false_ne_true),if_neg (zaq e4),if_neg (by rw[p5];exact Bool.false_ne_true),if_neg (zaq e6),if_neg (fun h=>h.elim (zaq e7) (zaq e8))])
           have hlt:=zaN (o:=o) hi0
           have hout:=zaJ (i:=i) (o:=o)
           rw[HS.out] at hlt hout
           simp only at hlt hout
           have HN:Hid (zaV s.data.toList=zcv (i.drop (zfr i)) (o++i.take (zfr i))):=Lib.hid (by rw[HD.out,zaM hi0,HS.out])
           have hseg:=zla hi0
           have hx1:=zaB (S i) 1
           rw[zac,zab] at hx1
           have HX1:=Lib.hid hx1
           have hx2:=zaB (S i) (zfr i)
           rw[zac,zab] at hx2
           have hx3:=zbb (S i) (zfr i)
           rw[zab] at hx3
           have HXS:=Lib.hid hx2
           have HXP:=Lib.hid hx3
           have hdl:(i.drop 1).length≤1000000:=by rw[List.length_drop];omega
           have hsg:(1:Int)+((zau (i.drop 1)).length:Int)=(zfr i:Int):=by unfold zfr;omega
           have HSG:=Lib.hid hsg
           have HIX:Hid (zaA (i.drop 1) [47]=(zau (i.drop 1)).length):=Lib.hid (zbD 47 _)
           clear hx1 hx2 hx3 hsg
           have Hp1:=Lib.hid p1
           have Hp2:=Lib.hid p2
           have Hp3:=Lib.hid p3
           have Hp5:=Lib.hid p5
           clear p1 p2 p3 p5
           go_wp2_with fail
           refine(zat _ _ _ hml).mono ?_
           rintro e w1 ⟨rfl,rfl⟩
           rw[zab,show Lib.hasPrefix i ({ data:=#[46,46,47] }:ByteArray).data.toList=false from Hp1.out]
           go_wp2_with fail
           refine(zat _ _ _ hml).mono ?_
           rintro e w1 ⟨rfl,rfl⟩
           rw[zab,show Lib.hasPrefix i ({ data:=#[46,47] }:ByteArray).data.toList=false from Hp2.out]
           go_wp2_with fail
           refine(zat _ _ _ hml).mono ?_
           rintro e w1 ⟨rfl,rfl⟩
           rw[zab,show Lib.hasPrefix i ({ data:=#[47,46,47] }:ByteArray).data.toList=false from Hp3.out]
           go_wp2_with fail
           refine(zat _ _ _ hml).mono ?_
           rintro e w1 ⟨rfl,rfl⟩
           rw[zab,show Lib.hasPrefix i ({ data:=#[47,46,46,47] }:ByteArray).data.toList=false from Hp5.out]
           go_wp2_with fail
           rw[HX1.out]
           refine(zbl _ _ _ (by unfold maxLen;rw[zac];omega) (by decide)).mono ?_
           rintro e w1 ⟨rfl,rfl⟩
           rw[zab,show zaA (i.drop 1) ({ data:=#[47] }:ByteArray).data.toList=(zau (i.drop 1)).length from HIX.out]
           have hfl:=(zaI (i.drop 1)).2
           generalize hfn:(zau (i.drop 1)).length=fn at *
           clear hfn
           have q0:(1:Int)+(fn:Int)=(zfr i:Int):=HSG.out
           generalize hsn:zfr i=sg at *
           clear hsn
           have q1:(0:Int)≤(sg:Int):=by omega
           have q2:(sg:Int)≤(i.length:Int):=by omega
           have q3:(i.take sg).length≤sg:=List.length_take_le _ _
           go_wp2_with fail
           go_quiet (fail)
           go_wp2_with fail
           go_roundw
           case rel=>exact⟨_,_,by omega,congrArg Value.string HXS.out,congrArg Value.string (by rw[HXP.out,←S_of (S o++S (i.take sg)),ByteArray.data_append,Array.toList_append]),HN,hq.drewN _⟩
           case measure=>rw[HXS.out,zai,zai,zac,zac];exact hlt
          ·have HS:Hid (zax i o=([],o)):=Lib.hid (by unfold zax;rw[if_neg (by rw[p1];exact Bool.false_ne_true),if_neg (by rw[p2];exact Bool.false_ne_true),if_neg (by rw[p3];exact Bool.false_ne_true),if_neg (zaq e4),if_neg (by rw[p5];exact Bool.false_ne_true),if_neg (zaq e6),if_pos (.inr (eq_of_beq e8))])
           have hlt:=zaN (o:=o) hi0
           have hout:=zaJ (i:=i) (o:=o)
           rw[HS.out] at hlt hout
           simp only at hlt hout
           have HN:Hid (zaV s.data.toList=zcv ([]) (o)):=Lib.hid (by rw[HD.out,zaM hi0,HS.out])
           have Hp1:=Lib.hid p1
           have Hp2:=Lib.hid p2
           have Hp3:=Lib.hid p3
           have Hp5:=Lib.hid p5
           clear p1 p2 p3 p5
           go_wp2_with fail
           refine(zat _ _ _ hml).mono ?_
           rintro e w1 ⟨rfl,rfl⟩
           rw[zab,show Lib.hasPrefix i ({ data:=#[46,46,47] }:ByteArray).data.toList=false from Hp1.out]
           go_wp2_with fail
           refine(zat _ _ _ hml).mono ?_
           rintro e w1 ⟨rfl,rfl⟩
           rw[zab,show Lib.hasPrefix i ({ data:=#[46,47] }:ByteArray).data.toList=false from Hp2.out]
           go_wp2_with fail
           refine(zat _ _ _ hml).mono ?_
           rintro e w1 ⟨rfl,rfl⟩
           rw[zab,show Lib.hasPrefix i ({ data:=#[47,46,47] }:ByteArray).data.toList=false from Hp3.out]
           go_wp2_with fail
           refine(zat _ _ _ hml).mono ?_
           rintro e w1 ⟨rfl,rfl⟩
           rw[zab,show Lib.hasPrefix i ({ data:=#[47,46,46,47] }:ByteArray).data.toList=false from Hp5.out]
           go_wp2_with fail
           go_roundw
           case rel=>exact⟨_,_,by omega,rfl,rfl,HN,hq⟩
           case measure=>rw[zai,zai,zac];exact hlt
         ·have HS:Hid (zax i o=([],o)):=Lib.hid (by unfold zax;rw[if_neg (by rw[p1];exact Bool.false_ne_true),if_neg (by rw[p2];exact Bool.false_ne_true),if_neg (by rw[p3];exact Bool.false_ne_true),if_neg (zaq e4),if_neg (by rw[p5];exact Bool.false_ne_true),if_neg (zaq e6),if_pos (.inl (eq_of_beq e7))])
          have hlt:=zaN (o:=o) hi0
          have hout:=zaJ (i:=i) (o:=o)
          rw[HS.out] at hlt hout
          simp only at hlt hout
          have HN:Hid (zaV s.data.toList=zcv ([]) (o)):=Lib.hid (by rw[HD.out,zaM hi0,HS.out])
          have Hp1:=Lib.hid p1
          have Hp2:=Lib.hid p2
          have Hp3:=Lib.hid p3
          have Hp5:=Lib.hid p5
          clear p1 p2 p3 p5
          go_wp2_with fail
          refine(zat _ _ _ hml).mono ?_
          rintro e w1 ⟨rfl,rfl⟩
          rw[zab,show Lib.hasPrefix i ({ data:=#[46,46,47] }:ByteArray).data.toList=false from Hp1.out]
          go_wp2_with fail
          refine(zat _ _ _ hml).mono ?_
          rintro e w1 ⟨rfl,rfl⟩
          rw[zab,show Lib.hasPrefix i ({ data:=#[46,47] }:ByteArray).data.toList=false from Hp2.out]
          go_wp2_with fail
          refine(zat _ _ _ hml).mono ?_
          rintro e w1 ⟨rfl,rfl⟩
          rw[zab,show Lib.hasPrefix i ({ data:=#[47,46,47] }:ByteArray).data.toList=false from Hp3.out]
          go_wp2_with fail
          refine(zat _ _ _ hml).mono ?_
          rintro e w1 ⟨rfl,rfl⟩
          rw[zab,show Lib.hasPrefix i ({ data:=#[47,46,46,47] }:ByteArray).data.toList=false from Hp5.out]
          go_wp2_with fail
          go_roundw
          case rel=>exact⟨_,_,by omega,rfl,rfl,HN,hq⟩
          case measure=>rw[zai,zai,zac];exact hlt
        ·have HS:Hid (zax i o=([47],za9 o)):=Lib.hid (by unfold zax;rw[if_neg (by rw[p1];exact Bool.false_ne_true),if_neg (by rw[p2];exact Bool.false_ne_true),if_neg (by rw[p3];exact Bool.false_ne_true),if_neg (zaq e4),if_neg (by rw[p5];exact Bool.false_ne_true),if_pos (eq_of_beq e6)])
         have hlt:=zaN (o:=o) hi0
         have hout:=zaJ (i:=i) (o:=o)
         rw[HS.out] at hlt hout
         simp only at hlt hout
         have HN:Hid (zaV s.data.toList=zcv ([47]) (za9 o)):=Lib.hid (by rw[HD.out,zaM hi0,HS.out])
         have Hp1:=Lib.hid p1
         have Hp2:=Lib.hid p2
         have Hp3:=Lib.hid p3
         have Hp5:=Lib.hid p5
         clear p1 p2 p3 p5
         go_wp2_with fail
         refine(zat _ _ _ hml).mono ?_
         rintro e w1 ⟨rfl,rfl⟩
         rw[zab,show Lib.hasPrefix i ({ data:=#[46,46,47] }:ByteArray).data.toList=false from Hp1.out]
         go_wp2_with fail
         refine(zat _ _ _ hml).mono ?_
         rintro e w1 ⟨rfl,rfl⟩
         rw[zab,show Lib.hasPrefix i ({ data:=#[46,47] }:ByteArray).data.toList=false from Hp2.out]
         go_wp2_with fail
         refine(zat _ _ _ hml).mono ?_
         rintro e w1 ⟨rfl,rfl⟩
         rw[zab,show Lib.hasPrefix i ({ data:=#[47,46,47] }:ByteArray).data.toList=false from Hp3.out]
         go_wp2_with fail
         refine(zat _ _ _ hml).mono ?_
         rintro e w1 ⟨rfl,rfl⟩
         rw[zab,show Lib.hasPrefix i ({ data:=#[47,46,46,47] }:ByteArray).data.toList=false from Hp5.out]
         go_wp2_with fail
         refine(zgj _ _ (by unfold maxLen;rw[zac];omega)).mono ?_
         rintro e w1 ⟨rfl,rfl⟩
         go_wp2_with fail
         go_roundw
         case rel=>exact⟨_,_,by omega,rfl,rfl,HN,hq⟩
         case measure=>rw[zai,zai,zac];exact hlt
       ·have HS:Hid (zax i o=(i.drop 3,za9 o)):=Lib.hid (by unfold zax;rw[if_neg (by rw[p1];exact Bool.false_ne_true),if_neg (by rw[p2];exact Bool.false_ne_true),if_neg (by rw[p3];exact Bool.false_ne_true),if_neg (zaq e4),if_pos p5])
        have hlt:=zaN (o:=o) hi0
        have hout:=zaJ (i:=i) (o:=o)
        rw[HS.out] at hlt hout
        simp only at hlt hout
        have HN:Hid (zaV s.data.toList=zcv (i.drop 3) (za9 o)):=Lib.hid (by rw[HD.out,zaM hi0,HS.out])
        have hp3:3≤i.length:=by have:=zd5 p5;simp at this;omega
        have hx:=zaB (S i) 3
        rw[zac,zab] at hx
        have HX:=Lib.hid hx
        clear hx
        have Hp1:=Lib.hid p1
        have Hp2:=Lib.hid p2
        have Hp3:=Lib.hid p3
        have Hp5:=Lib.hid p5
        clear p1 p2 p3 p5
        go_wp2_with fail
        refine(zat _ _ _ hml).mono ?_
        rintro e w1 ⟨rfl,rfl⟩
        rw[zab,show Lib.hasPrefix i ({ data:=#[46,46,47] }:ByteArray).data.toList=false from Hp1.out]
        go_wp2_with fail
        refine(zat _ _ _ hml).mono ?_
        rintro e w1 ⟨rfl,rfl⟩
        rw[zab,show Lib.hasPrefix i ({ data:=#[46,47] }:ByteArray).data.toList=false from Hp2.out]
        go_wp2_with fail
        refine(zat _ _ _ hml).mono ?_
        rintro e w1 ⟨rfl,rfl⟩
        rw[zab,show Lib.hasPrefix i ({ data:=#[47,46,47] }:ByteArray).data.toList=false from Hp3.out]
        go_wp2_with fail
        refine(zat _ _ _ hml).mono ?_
        rintro e w1 ⟨rfl,rfl⟩
        rw[zab,show Lib.hasPrefix i ({ data:=#[47,46,46,47] }:ByteArray).data.toList=true from Hp5.out]
        go_wp2_with fail
        go_quiet ((go_at_call 114;exact zdb (zgj _ _ (by unfold maxLen;rw[zac];omega))))
        go_wp2_with fail
        go_roundw
        case rel=>exact⟨_,_,by omega,congrArg Value.string HX.out,rfl,HN,hq.drewN _⟩
        case measure=>rw[HX.out,zai,zai,zac,zac];exact hlt
      ·have HS:Hid (zax i o=([47],o)):=Lib.hid (by unfold zax;rw[if_neg (by rw[p1];exact Bool.false_ne_true),if_neg (by rw[p2];exact Bool.false_ne_true),if_neg (by rw[p3];exact Bool.false_ne_true),if_pos (eq_of_beq e4)])
       have hlt:=zaN (o:=o) hi0
       have hout:=zaJ (i:=i) (o:=o)
       rw[HS.out] at hlt hout
       simp only at hlt hout
       have HN:Hid (zaV s.data.toList=zcv ([47]) (o)):=Lib.hid (by rw[HD.out,zaM hi0,HS.out])
       have Hp1:=Lib.hid p1
       have Hp2:=Lib.hid p2
       have Hp3:=Lib.hid p3
       clear p1 p2 p3
       go_wp2_with fail
       refine(zat _ _ _ hml).mono ?_
       rintro e w1 ⟨rfl,rfl⟩
       rw[zab,show Lib.hasPrefix i ({ data:=#[46,46,47] }:ByteArray).data.toList=false from Hp1.out]
       go_wp2_with fail
       refine(zat _ _ _ hml).mono ?_
       rintro e w1 ⟨rfl,rfl⟩
       rw[zab,show Lib.hasPrefix i ({ data:=#[46,47] }:ByteArray).data.toList=false from Hp2.out]
       go_wp2_with fail
       refine(zat _ _ _ hml).mono ?_
       rintro e w1 ⟨rfl,rfl⟩
       rw[zab,show Lib.hasPrefix i ({ data:=#[47,46,47] }:ByteArray).data.toList=false from Hp3.out]
       go_wp2_with fail
       go_roundw
       case rel=>exact⟨_,_,by omega,rfl,rfl,HN,hq⟩
       case measure=>rw[zai,zai,zac];exact hlt
     ·have HS:Hid (zax i o=(i.drop 2,o)):=Lib.hid (by unfold zax;rw[if_neg (by rw[p1];exact Bool.false_ne_true),if_neg (by rw[p2];exact Bool.false_ne_true),if_pos p3])
      have hlt:=zaN (o:=o) hi0
      have hout:=zaJ (i:=i) (o:=o)
      rw[HS.out] at hlt hout
      simp only at hlt hout
      have HN:Hid (zaV s.data.toList=zcv (i.drop 2) (o)):=Lib.hid (by rw[HD.out,zaM hi0,HS.out])
      have hp2:2≤i.length:=by have:=zd5 p3;simp at this;omega
      have hx:=zaB (S i) 2
      rw[zac,zab] at hx
      have HX:=Lib.hid hx
      clear hx
      have Hp1:=Lib.hid p1
      have Hp2:=Lib.hid p2
      have Hp3:=Lib.hid p3
      clear p1 p2 p3
      go_wp2_with fail
      refine(zat _ _ _ hml).mono ?_
      rintro e w1 ⟨rfl,rfl⟩
      rw[zab,show Lib.hasPrefix i ({ data:=#[46,46,47] }:ByteArray).data.toList=false from Hp1.out]
      go_wp2_with fail
      refine(zat _ _ _ hml).mono ?_
      rintro e w1 ⟨rfl,rfl⟩
      rw[zab,show Lib.hasPrefix i ({ data:=#[46,47] }:ByteArray).data.toList=false from Hp2.out]
      go_wp2_with fail
      refine(zat _ _ _ hml).mono ?_
      rintro e w1 ⟨rfl,rfl⟩
      rw[zab,show Lib.hasPrefix i ({ data:=#[47,46,47] }:ByteArray).data.toList=true from Hp3.out]
      go_wp2_with fail
      go_roundw
      case rel=>exact⟨_,_,by omega,congrArg Value.string HX.out,rfl,HN,hq⟩
      case measure=>rw[HX.out,zai,zai,zac,zac];exact hlt
    ·have HS:Hid (zax i o=(i.drop 2,o)):=Lib.hid (by unfold zax;rw[if_neg (by rw[p1];exact Bool.false_ne_true),if_pos p2])
     have hlt:=zaN (o:=o) hi0
     have hout:=zaJ (i:=i) (o:=o)
     rw[HS.out] at hlt hout
     simp only at hlt hout
     have HN:Hid (zaV s.data.toList=zcv (i.drop 2) (o)):=Lib.hid (by rw[HD.out,zaM hi0,HS.out])
     have hp2:2≤i.length:=by have:=zd5 p2;simp at this;omega
     have hx:=zaB (S i) 2
     rw[zac,zab] at hx
     have HX:=Lib.hid hx
     clear hx
     have Hp1:=Lib.hid p1
     have Hp2:=Lib.hid p2
     clear p1 p2
     go_wp2_with fail
     refine(zat _ _ _ hml).mono ?_
     rintro e w1 ⟨rfl,rfl⟩
     rw[zab,show Lib.hasPrefix i ({ data:=#[46,46,47] }:ByteArray).data.toList=false from Hp1.out]
     go_wp2_with fail
     refine(zat _ _ _ hml).mono ?_
     rintro e w1 ⟨rfl,rfl⟩
     rw[zab,show Lib.hasPrefix i ({ data:=#[46,47] }:ByteArray).data.toList=true from Hp2.out]
     go_wp2_with fail
     go_roundw
     case rel=>exact⟨_,_,by omega,congrArg Value.string HX.out,rfl,HN,hq⟩
     case measure=>rw[HX.out,zai,zai,zac,zac];exact hlt
   ·have HS:Hid (zax i o=(i.drop 3,o)):=Lib.hid (by unfold zax;rw[if_pos p1])
    have hlt:=zaN (o:=o) hi0
    have hout:=zaJ (i:=i) (o:=o)
    rw[HS.out] at hlt hout
    simp only at hlt hout
    have HN:Hid (zaV s.data.toList=zcv (i.drop 3) (o)):=Lib.hid (by rw[HD.out,zaM hi0,HS.out])
    have hp3:3≤i.length:=by have:=zd5 p1;simp at this;omega
    have hx:=zaB (S i) 3
    rw[zac,zab] at hx
    have HX:=Lib.hid hx
    clear hx
    have Hp1:=Lib.hid p1
    clear p1
    go_wp2_with fail
    refine(zat _ _ _ hml).mono ?_
    rintro e w1 ⟨rfl,rfl⟩
    rw[zab,show Lib.hasPrefix i ({ data:=#[46,46,47] }:ByteArray).data.toList=true from Hp1.out]
    go_wp2_with fail
    go_roundw
    case rel=>exact⟨_,_,by omega,congrArg Value.string HX.out,rfl,HN,hq⟩
    case measure=>rw[HX.out,zai,zai,zac,zac];exact hlt
end Go.Proofs.YtnnipcgblooemaaGreatDoor
namespace Go.Proofs.YtnnipcgblooemaaGreatDoor
open Go.RowKit
attribute [local go_sem ↓] Go.wp_at_zero Go.wp_at_succ
set_option maxHeartbeats 8000000 in
theorem zpM (s:ByteArray) (w:World) (hs:s.size≤1000000) :
  Calls Tryz.prog 151 #[.string s] w fun e w'=>e=.returned (.string (S (zaV s.data.toList)))∧Qb w w':=by
 have hmk:=fun W=>zfC s.size (by omega) W
 go_enter Tryz.func151,Tryz.ntmps151
 go_wp2_with fail
 go_region
 go_wp2_with fail
 clear hmk
 go_loopw [3,4,5] (fun x y _ wr=>∃(i o:List UInt8) (g cap:Nat),o.length+i.length≤s.size∧x=.string (S i)∧y=.slice (some ⟨g,0,none⟩) o.length cap∧zci wr w.heap.size (.slice (some ⟨g,0,none⟩) o.length cap) o∧Hid (zaV s.data.toList=zcv i o)∧Qb w wr) (fun x _ _ _=>zoT x)
 case atStart=>exact⟨s.data.toList,[],w.heap.size,s.size,by rw[zaa];simp,rfl,rfl,(zeD w _ 0 _ (Nat.le_refl _) (Nat.zero_le _) (by omega)).drew,Lib.hid rfl,((Qb.refl w).alloc _).drew⟩
 case round=>
  obtain⟨i,o,g,cap,hl,rfl,rfl,hrow,HD,hq⟩:=hrel
  have hB:w.heap.size≤wr.heap.size:=hq.size
  rcases i with _|⟨c,t⟩
  ·have hst:=ze9 hrow
   clear hrow
   go_wp2_with fail
   go_ret
   exact⟨zfw (by rw[HD.out,zez]),hq⟩
  ·generalize hi:c::t=i at *
   have hi0:i≠[]:=by rw[←hi];simp
   have hne:i.isEmpty=false:=by rw[←hi];rfl
   clear hi
   have hml:(S i).size≤maxLen:=by unfold maxLen;rw[zac];omega
   have hil:i.length≤1000000:=by omega
   have hol:o.length≤1000000:=by omega
   rcases p1:Lib.hasPrefix i [46,46,47] with _|_
   ·rcases p2:Lib.hasPrefix i [46,47] with _|_
    ·rcases p3:Lib.hasPrefix i [47,46,47] with _|_
     ·rcases e4:(i==[47,46]) with _|_
      ·rcases p5:Lib.hasPrefix i [47,46,46,47] with _|_
       ·rcases e6:(i==[47,46,46]) with _|_
        ·rcases e7:(i==[46]) with _|_
         ·rcases e8:(i==[46,46]) with _|_
          ·have HS:Hid (zax i o=(i.drop (zfr i),o++i.take (zfr i))):=Lib.hid (by unfold zax;rw[if_neg (by rw[p1];exact Bool.false_ne_true),if_neg (by rw[p2];exact Bool.false_ne_true),if_neg (by rw[p3];exact Bool.false_ne_true),if_neg (zaq e4),if_neg (by rw[p5];exact Bool.false_ne_true),if_neg (zaq e6),if_neg (fun h=>h.elim (zaq e7) (zaq e8))])
           have hlt:=zaN (o:=o) hi0
           have hout:=zaJ (i:=i) (o:=o)
           rw[HS.out] at hlt hout
           simp only at hlt hout
           have HN:Hid (zaV s.data.toList=zcv (i.drop (zfr i)) (o++i.take (zfr i))):=Lib.hid (by rw[HD.out,zaM hi0,HS.out])
           have hseg:=zla hi0
           have hx1:=zaB (S i) 1
           rw[zac,zab] at hx1
           have HX1:=Lib.hid hx1
           have hx2:=zaB (S i) (zfr i)
           rw[zac,zab] at hx2
           have hx3:=zbb (S i) (zfr i)
           rw[zab] at hx3
           have HXS:=Lib.hid hx2
           have HXP:=Lib.hid hx3
           have hdl:(i.drop 1).length≤1000000:=by rw[List.length_drop];omega
           have hsg:(1:Int)+((zau (i.drop 1)).length:Int)=(zfr i:Int):=by unfold zfr;omega
           have HSG:=Lib.hid hsg
           clear hx1 hx2 hx3 hsg
           have Hp1:=Lib.hid p1
           have Hp2:=Lib.hid p2
           have Hp3:=Lib.hid p3
           have Hp5:=Lib.hid p5
           clear p1 p2 p3 p5
           go_wp2_with fail
           refine(Tryz.strings_HasPrefix _ _ _).mono ?_
           rintro e w1 ⟨rfl,rfl⟩
           rw[zab,show Lib.hasPrefix i ({ data:=#[46,46,47] }:ByteArray).data.toList=false from Hp1.out]
           go_wp2_with fail
           refine(Tryz.strings_HasPrefix _ _ _).mono ?_
           rintro e w1 ⟨rfl,rfl⟩
           rw[zab,show Lib.hasPrefix i ({ data:=#[46,47] }:ByteArray).data.toList=false from Hp2.out]
           go_wp2_with fail
           refine(Tryz.strings_HasPrefix _ _ _).mono ?_
           rintro e w1 ⟨rfl,rfl⟩
           rw[zab,show Lib.hasPrefix i ({ data:=#[47,46,47] }:ByteArray).data.toList=false from Hp3.out]
           go_wp2_with fail
           refine(Tryz.strings_HasPrefix _ _ _).mono ?_
           rintro e w1 ⟨rfl,rfl⟩
           rw[zab,show Lib.hasPrefix i ({ data:=#[47,46,46,47] }:ByteArray).data.toList=false from Hp5.out]
           go_wp2_with fail
           rw[HX1.out]
           refine(zc4 _ _ (by unfold maxLen;rw[zac];omega)).mono ?_
           rintro e w1 ⟨rfl,hq1⟩
           rw[zab]
           have hrow1:=hrow.below hq1
           have hB1:w.heap.size≤w1.heap.size:=Nat.le_trans hB hq1.size
           have hfl:=(zaI (i.drop 1)).2
           generalize hfa:zau (i.drop 1)=fa at *
           have HFA:=Lib.hid hfa
           clear hfa
           have q0:(1:Int)+(fa.length:Int)=(zfr i:Int):=HSG.out
           generalize hsn:zfr i=sg at *
           clear hsn
           have q1:(0:Int)≤(sg:Int):=by omega
           have q2:(sg:Int)≤(i.length:Int):=by omega
           have q3:(i.take sg).length≤sg:=List.length_take_le _ _
           go_wp2_with fail
           go_region_held_law (fun w'=>True) (first|trivial|go_keep) ((refine zgW (o:=⟨some 24,_,_,_,_,_⟩) (by rfl) (.tmp 20) (.tmp 23) (by rfl) w.heap.size _ o (by rfl) (zci.drew hrow1) _ (by rfl) (by rw[HXP.out,zac];omega) (by simp;omega) ?_;intro v1 w2 hr1 hb1))
           rw[HXP.out,zab] at hr1
           obtain⟨oo,hoo⟩:∃oo,oo=o++i.take sg:=⟨_,rfl⟩
           rw[←hoo] at hr1
           have HN2:Hid (zaV s.data.toList=zcv (i.drop sg) oo):=Lib.hid (by rw[hoo];exact HN.out)
           have hoo1:oo.length+(i.drop sg).length≤s.size:=by rw[hoo];omega
           have hoo2:0<oo.length:=by rw[hoo,List.length_append,List.length_take];omega
           clear hoo HN hout
           obtain⟨g1,cap1,rfl,_⟩:=hr1.form hoo2
           go_wp2_with fail
           go_roundw
           case rel=>exact⟨_,_,_,_,hoo1,congrArg Value.string HXS.out,rfl,hr1,HN2,Below.trans ((hq.trans hq1).drew) hb1⟩
           case measure=>rw[HXS.out,zai,zai,zac,zac];exact hlt
          ·have HS:Hid (zax i o=([],o)):=Lib.hid (by unfold zax;rw[if_neg (by rw[p1];exact Bool.false_ne_true),if_neg (by rw[p2];exact Bool.false_ne_true),if_neg (by rw[p3];exact Bool.false_ne_true),if_neg (zaq e4),if_neg (by rw[p5];exact Bool.false_ne_true),if_neg (zaq e6),if_pos (.inr (eq_of_beq e8))])
           have hlt:=zaN (o:=o) hi0
           have hout:=zaJ (i:=i) (o:=o)
           rw[HS.out] at hlt hout
           simp only at hlt hout
           have HN:Hid (zaV s.data.toList=zcv ([]) (o)):=Lib.hid (by rw[HD.out,zaM hi0,HS.out])
           have Hp1:=Lib.hid p1
           have Hp2:=Lib.hid p2
           have Hp3:=Lib.hid p3
           have Hp5:=Lib.hid p5
           clear p1 p2 p3 p5
           go_wp2_with fail
           refine(Tryz.strings_HasPrefix _ _ _).mono ?_
           rintro e w1 ⟨rfl,rfl⟩
           rw[zab,show Lib.hasPrefix i ({ data:=#[46,46,47] }:ByteArray).data.toList=false from Hp1.out]
           go_wp2_with fail
           refine(Tryz.strings_HasPrefix _ _ _).mono ?_
           rintro e w1 ⟨rfl,rfl⟩
           rw[zab,show Lib.hasPrefix i ({ data:=#[46,47] }:ByteArray).data.toList=false from Hp2.out]
           go_wp2_with fail
           refine(Tryz.strings_HasPrefix _ _ _).mono ?_
           rintro e w1 ⟨rfl,rfl⟩
           rw[zab,show Lib.hasPrefix i ({ data:=#[47,46,47] }:ByteArray).data.toList=false from Hp3.out]
           go_wp2_with fail
           refine(Tryz.strings_HasPrefix _ _ _).mono ?_
           rintro e w1 ⟨rfl,rfl⟩
           rw[zab,show Lib.hasPrefix i ({ data:=#[47,46,46,47] }:ByteArray).data.toList=false from Hp5.out]
           go_wp2_with fail
           go_roundw
           case rel=>exact⟨_,_,_,_,by omega,rfl,rfl,hrow,HN,hq⟩
           case measure=>rw[zai,zai,zac];exact hlt
         ·have HS:Hid (zax i o=([],o)):=Lib.hid (by unfold zax;rw[if_neg (by rw[p1];exact Bool.false_ne_true),if_neg (by rw[p2];exact Bool.false_ne_true),if_neg (by rw[p3];exact Bool.false_ne_true),if_neg (zaq e4),if_neg (by rw[p5];exact Bool.false_ne_true),if_neg (zaq e6),if_pos (.inl (eq_of_beq e7))])
          have hlt:=zaN (o:=o) hi0
          have hout:=zaJ (i:=i) (o:=o)
          rw[HS.out] at hlt hout
          simp only at hlt hout
          have HN:Hid (zaV s.data.toList=zcv ([]) (o)):=Lib.hid (by rw[HD.out,zaM hi0,HS.out])
          have Hp1:=Lib.hid p1
          have Hp2:=Lib.hid p2
          have Hp3:=Lib.hid p3
          have Hp5:=Lib.hid p5
          clear p1 p2 p3 p5
          go_wp2_with fail
          refine(Tryz.strings_HasPrefix _ _ _).mono ?_
          rintro e w1 ⟨rfl,rfl⟩
          rw[zab,show Lib.hasPrefix i ({ data:=#[46,46,47] }:ByteArray).data.toList=false from Hp1.out]
          go_wp2_with fail
          refine(Tryz.strings_HasPrefix _ _ _).mono ?_
          rintro e w1 ⟨rfl,rfl⟩
          rw[zab,show Lib.hasPrefix i ({ data:=#[46,47] }:ByteArray).data.toList=false from Hp2.out]
          go_wp2_with fail
          refine(Tryz.strings_HasPrefix _ _ _).mono ?_
          rintro e w1 ⟨rfl,rfl⟩
          rw[zab,show Lib.hasPrefix i ({ data:=#[47,46,47] }:ByteArray).data.toList=false from Hp3.out]
          go_wp2_with fail
          refine(Tryz.strings_HasPrefix _ _ _).mono ?_
          rintro e w1 ⟨rfl,rfl⟩
          rw[zab,show Lib.hasPrefix i ({ data:=#[47,46,46,47] }:ByteArray).data.toList=false from Hp5.out]
          go_wp2_with fail
          go_roundw
          case rel=>exact⟨_,_,_,_,by omega,rfl,rfl,hrow,HN,hq⟩
          case measure=>rw[zai,zai,zac];exact hlt
        ·have HS:Hid (zax i o=([47],za9 o)):=Lib.hid (by unfold zax;rw[if_neg (by rw[p1];exact Bool.false_ne_true),if_neg (by rw[p2];exact Bool.false_ne_true),if_neg (by rw[p3];exact Bool.false_ne_true),if_neg (zaq e4),if_neg (by rw[p5];exact Bool.false_ne_true),if_pos (eq_of_beq e6)])
         have hlt:=zaN (o:=o) hi0
         have hout:=zaJ (i:=i) (o:=o)
         rw[HS.out] at hlt hout
         simp only at hlt hout
         have HN:Hid (zaV s.data.toList=zcv ([47]) (za9 o)):=Lib.hid (by rw[HD.out,zaM hi0,HS.out])
         have Hp1:=Lib.hid p1
         have Hp2:=Lib.hid p2
         have Hp3:=Lib.hid p3
         have Hp5:=Lib.hid p5
         clear p1 p2 p3 p5
         go_wp2_with fail
         refine(Tryz.strings_HasPrefix _ _ _).mono ?_
         rintro e w1 ⟨rfl,rfl⟩
         rw[zab,show Lib.hasPrefix i ({ data:=#[46,46,47] }:ByteArray).data.toList=false from Hp1.out]
         go_wp2_with fail
         refine(Tryz.strings_HasPrefix _ _ _).mono ?_
         rintro e w1 ⟨rfl,rfl⟩
         rw[zab,show Lib.hasPrefix i ({ data:=#[46,47] }:ByteArray).data.toList=false from Hp2.out]
         go_wp2_with fail
         refine(Tryz.strings_HasPrefix _ _ _).mono ?_
         rintro e w1 ⟨rfl,rfl⟩
         rw[zab,show Lib.hasPrefix i ({ data:=#[47,46,47] }:ByteArray).data.toList=false from Hp3.out]
         go_wp2_with fail
         refine(Tryz.strings_HasPrefix _ _ _).mono ?_
         rintro e w1 ⟨rfl,rfl⟩
         rw[zab,show Lib.hasPrefix i ({ data:=#[47,46,46,47] }:ByteArray).data.toList=false from Hp5.out]
         have hrow1:=hrow.pre (za9 o).length (zeI o)
         rw[←zg0] at hrow1
         go_wp2_with fail
         refine(zek g cap _ o _ hrow (by omega)).mono ?_
         rintro e w1 ⟨rfl,rfl⟩
         go_wp2_with fail
         go_roundw
         case rel=>exact⟨_,_,_,_,by omega,rfl,rfl,hrow1,HN,hq⟩
         case measure=>rw[zai,zai,zac];exact hlt
       ·have HS:Hid (zax i o=(i.drop 3,za9 o)):=Lib.hid (by unfold zax;rw[if_neg (by rw[p1];exact Bool.false_ne_true),if_neg (by rw[p2];exact Bool.false_ne_true),if_neg (by rw[p3];exact Bool.false_ne_true),if_neg (zaq e4),if_pos p5])
        have hlt:=zaN (o:=o) hi0
        have hout:=zaJ (i:=i) (o:=o)
        rw[HS.out] at hlt hout
        simp only at hlt hout
        have HN:Hid (zaV s.data.toList=zcv (i.drop 3) (za9 o)):=Lib.hid (by rw[HD.out,zaM hi0,HS.out])
        have hp3:3≤i.length:=by have:=zd5 p5;simp at this;omega
        have hx:=zaB (S i) 3
        rw[zac,zab] at hx
        have HX:=Lib.hid hx
        clear hx
        have Hp1:=Lib.hid p1
        have Hp2:=Lib.hid p2
        have Hp3:=Lib.hid p3
        have Hp5:=Lib.hid p5
        clear p1 p2 p3 p5
        go_wp2_with fail
        refine(Tryz.strings_HasPrefix _ _ _).mono ?_
        rintro e w1 ⟨rfl,rfl⟩
        rw[zab,show Lib.hasPrefix i ({ data:=#[46,46,47] }:ByteArray).data.toList=false from Hp1.out]
        go_wp2_with fail
        refine(Tryz.strings_HasPrefix _ _ _).mono ?_
        rintro e w1 ⟨rfl,rfl⟩
        rw[zab,show Lib.hasPrefix i ({ data:=#[46,47] }:ByteArray).data.toList=false from Hp2.out]
        go_wp2_with fail
        refine(Tryz.strings_HasPrefix _ _ _).mono ?_
        rintro e w1 ⟨rfl,rfl⟩
        rw[zab,show Lib.hasPrefix i ({ data:=#[47,46,47] }:ByteArray).data.toList=false from Hp3.out]
        go_wp2_with fail
        refine(Tryz.strings_HasPrefix _ _ _).mono ?_
        rintro e w1 ⟨rfl,rfl⟩
        rw[zab,show Lib.hasPrefix i ({ data:=#[47,46,46,47] }:ByteArray).data.toList=true from Hp5.out]
        have hrow1:=hrow.pre (za9 o).length (zeI o)
        rw[←zg0] at hrow1
        go_wp2_with fail
        go_quiet ((go_at_call 184;exact zdb (zek g cap _ o _ (hrow.drewN _) (by omega))))
        go_wp2_with fail
        go_roundw
        case rel=>exact⟨_,_,_,_,by omega,congrArg Value.string HX.out,rfl,hrow1.drewN _,HN,hq.drewN _⟩
        case measure=>rw[HX.out,zai,zai,zac,zac];exact hlt
      ·have HS:Hid (zax i o=([47],o)):=Lib.hid (by unfold zax;rw[if_neg (by rw[p1];exact Bool.false_ne_true),if_neg (by rw[p2];exact Bool.false_ne_true),if_neg (by rw[p3];exact Bool.false_ne_true),if_pos (eq_of_beq e4)])
       have hlt:=zaN (o:=o) hi0
       have hout:=zaJ (i:=i) (o:=o)
       rw[HS.out] at hlt hout
       simp only at hlt hout
       have HN:Hid (zaV s.data.toList=zcv ([47]) (o)):=Lib.hid (by rw[HD.out,zaM hi0,HS.out])
       have Hp1:=Lib.hid p1
       have Hp2:=Lib.hid p2
       have Hp3:=Lib.hid p3
       clear p1 p2 p3
       go_wp2_with fail
       refine(Tryz.strings_HasPrefix _ _ _).mono ?_
       rintro e w1 ⟨rfl,rfl⟩
       rw[zab,show Lib.hasPrefix i ({ data:=#[46,46,47] }:ByteArray).data.toList=false from Hp1.out]
       go_wp2_with fail
       refine(Tryz.strings_HasPrefix _ _ _).mono ?_
       rintro e w1 ⟨rfl,rfl⟩
       rw[zab,show Lib.hasPrefix i ({ data:=#[46,47] }:ByteArray).data.toList=false from Hp2.out]
       go_wp2_with fail
       refine(Tryz.strings_HasPrefix _ _ _).mono ?_
       rintro e w1 ⟨rfl,rfl⟩
       rw[zab,show Lib.hasPrefix i ({ data:=#[47,46,47] }:ByteArray).data.toList=false from Hp3.out]
       go_wp2_with fail
       go_roundw
       case rel=>exact⟨_,_,_,_,by omega,rfl,rfl,hrow,HN,hq⟩
       case measure=>rw[zai,zai,zac];exact hlt
     ·have HS:Hid (zax i o=(i.drop 2,o)):=Lib.hid (by unfold zax;rw[if_neg (by rw[p1];exact Bool.false_ne_true),if_neg (by rw[p2];exact Bool.false_ne_true),if_pos p3])
      have hlt:=zaN (o:=o) hi0
      have hout:=zaJ (i:=i) (o:=o)
      rw[HS.out] at hlt hout
      simp only at hlt hout
      have HN:Hid (zaV s.data.toList=zcv (i.drop 2) (o)):=Lib.hid (by rw[HD.out,zaM hi0,HS.out])
      have hp2:2≤i.length:=by have:=zd5 p3;simp at this;omega
      have hx:=zaB (S i) 2
      rw[zac,zab] at hx
      have HX:=Lib.hid hx
      clear hx
      have Hp1:=Lib.hid p1
      have Hp2:=Lib.hid p2
      have Hp3:=Lib.hid p3
      clear p1 p2 p3
      go_wp2_with fail
      refine(Tryz.strings_HasPrefix _ _ _).mono ?_
      rintro e w1 ⟨rfl,rfl⟩
      rw[zab,show Lib.hasPrefix i ({ data:=#[46,46,47] }:ByteArray).data.toList=false from Hp1.out]
      go_wp2_with fail
      refine(Tryz.strings_HasPrefix _ _ _).mono ?_
      rintro e w1 ⟨rfl,rfl⟩
      rw[zab,show Lib.hasPrefix i ({ data:=#[46,47] }:ByteArray).data.toList=false from Hp2.out]
      go_wp2_with fail
      refine(Tryz.strings_HasPrefix _ _ _).mono ?_
      rintro e w1 ⟨rfl,rfl⟩
      rw[zab,show Lib.hasPrefix i ({ data:=#[47,46,47] }:ByteArray).data.toList=true from Hp3.out]
      go_wp2_with fail
      go_roundw
      case rel=>exact⟨_,_,_,_,by omega,congrArg Value.string HX.out,rfl,hrow,HN,hq⟩
      case measure=>rw[HX.out,zai,zai,zac,zac];exact hlt
    ·have HS:Hid (zax i o=(i.drop 2,o)):=Lib.hid (by unfold zax;rw[if_neg (by rw[p1];exact Bool.false_ne_true),if_pos p2])
     have hlt:=zaN (o:=o) hi0
     have hout:=zaJ (i:=i) (o:=o)
     rw[HS.out] at hlt hout
     simp only at hlt hout
     have HN:Hid (zaV s.data.toList=zcv (i.drop 2) (o)):=Lib.hid (by rw[HD.out,zaM hi0,HS.out])
     have hp2:2≤i.length:=by have:=zd5 p2;simp at this;omega
     have hx:=zaB (S i) 2
     rw[zac,zab] at hx
     have HX:=Lib.hid hx
     clear hx
     have Hp1:=Lib.hid p1
     have Hp2:=Lib.hid p2
     clear p1 p2
     go_wp2_with fail
     refine(Tryz.strings_HasPrefix _ _ _).mono ?_
     rintro e w1 ⟨rfl,rfl⟩
     rw[zab,show Lib.hasPrefix i ({ data:=#[46,46,47] }:ByteArray).data.toList=false from Hp1.out]
     go_wp2_with fail
     refine(Tryz.strings_HasPrefix _ _ _).mono ?_
     rintro e w1 ⟨rfl,rfl⟩
     rw[zab,show Lib.hasPrefix i ({ data:=#[46,47] }:ByteArray).data.toList=true from Hp2.out]
     go_wp2_with fail
     go_roundw
     case rel=>exact⟨_,_,_,_,by omega,congrArg Value.string HX.out,rfl,hrow,HN,hq⟩
     case measure=>rw[HX.out,zai,zai,zac,zac];exact hlt
   ·have HS:Hid (zax i o=(i.drop 3,o)):=Lib.hid (by unfold zax;rw[if_pos p1])
    have hlt:=zaN (o:=o) hi0
    have hout:=zaJ (i:=i) (o:=o)
    rw[HS.out] at hlt hout
    simp only at hlt hout
    have HN:Hid (zaV s.data.toList=zcv (i.drop 3) (o)):=Lib.hid (by rw[HD.out,zaM hi0,HS.out])
    have hp3:3≤i.length:=by have:=zd5 p1;simp at this;omega
    have hx:=zaB (S i) 3
    rw[zac,zab] at hx
    have HX:=Lib.hid hx
    clear hx
    have Hp1:=Lib.hid p1
    clear p1
    go_wp2_with fail
    refine(Tryz.strings_HasPrefix _ _ _).mono ?_
    rintro e w1 ⟨rfl,rfl⟩
    rw[zab,show Lib.hasPrefix i ({ data:=#[46,46,47] }:ByteArray).data.toList=true from Hp1.out]
    go_wp2_with fail
    go_roundw
    case rel=>exact⟨_,_,_,_,by omega,congrArg Value.string HX.out,rfl,hrow,HN,hq⟩
    case measure=>rw[HX.out,zai,zai,zac,zac];exact hlt
end Go.Proofs.YtnnipcgblooemaaGreatDoor
namespace Go.Proofs.YtnnipcgblooemaaGreatDoor
open Go.RowKit Sx
def zbz (u:UriP):AV:=.agg [.s u.scheme,.s u.auth,.s u.path,.s u.query,.s u.frag,.b u.hs,.b u.ha,.b u.hq,.b u.hf]
section
variable [Tabs Tryz.prog] {objs:List OB} {K:List OB→AV→Prop}
theorem uSplit_k (s:List UInt8) (hk:K objs (.tup [zbz (zaw s).2,.i .i64 (zaw s).1])):zad Tryz.prog 123 [.s s] objs K:=by
 refine conv (vs:=[.string (S s)]) rfl rfl (fun w=>?_) hk
 rcases Nat.lt_or_ge 16384 s.length with h|h
 ·exact zot (S s) w (by rw[zac];exact h)
 ·exact zlS (S s) w (by rw[zac];exact h)
theorem uDots_k (s:List UInt8) (hs:s.length≤1000000) (hk:K objs (.s (zaV s))):zad Tryz.prog 151 [.s s] objs K :=
 conv (vs:=[.string (S s)]) rfl rfl (fun w=>zpM (S s) w (by rw[zac];exact hs)) hk
theorem ruDots_k (s:List UInt8) (hs:s.length≤1000000) (hk:K objs (.s (zaV s))):zad Tryz.prog 84 [.s s] objs K :=
 conv (vs:=[.string (S s)]) rfl rfl (fun w=>zpB (S s) w (by rw[zac];exact hs)) hk
theorem zfu (s:List UInt8) (hs:s.length≤maxLen) (hk:K objs (.b (zbU s))):zad Tryz.prog 112 [.s s] objs K :=
 zrv (vs:=[.string (S s)]) rfl rfl (fun w=>zlc (S s) w (by rw[zac];exact hs)) hk
end
end Go.Proofs.YtnnipcgblooemaaGreatDoor
namespace Go.Proofs.YtnnipcgblooemaaGreatDoor
open Nat renaming reduceAdd → z6, reduceSub → z7, reduceLeDiff → z8, reduceLT → j6, reduceMul → j7, reduceEqDiff → j8
open Int renaming reduceToNat → j9, reduceAdd → x0, reduceSub → x5, reduceMul → x6, reduceNeg → x7, reduceLT → x8, reduceLE → x9, reduceEq → y3, reduceNe → y4
open Go.RowKit Sx
theorem zfE (x:UInt8) (t set:List UInt8):zaA (x::t) set=if zbe x set=true then 0 else zaA t set+1:=by
 unfold zaA
 rw[List.findIdx_cons]
 cases zbe x set<;>rfl
theorem zeB (c:UInt8):∀l:List UInt8,(zaA l [c]<l.length→zar c l=(l.take (zaA l [c]),l.drop (zaA l [c]+1),true))∧(¬zaA l [c]<l.length→zar c l=(l,[],false))
 | []=>⟨fun h=>absurd h (by simp),fun _=>rfl⟩
 | x::t=>by
  have ih:=zeB c t
  rw[zfE,zcx]
  by_cases hx:x=c
  ·subst hx
   have:zbe x [x]=true:=by simp[zbe]
   rw[if_pos this,if_pos rfl]
   exact⟨fun _=>by simp,fun h=>absurd (by simp) h⟩
  ·have:¬zbe x [c]=true:=by simp[zbe,hx]
   rw[if_neg this,if_neg hx]
   refine⟨fun h=>?_,fun h=>?_⟩
   ·rw[ih.1 (by simp at h;omega)];simp
   ·rw[ih.2 (by simp at h ⊢;omega)]
theorem zoj (x:UInt8) (t:List UInt8):zau (x::t)=if x=47 then [] else x::zau t:=by
 unfold zau
 rw[zcx]
 split<;>rfl
theorem zfU:∀l:List UInt8,(∀h:zaA l [58,47]<l.length,l[zaA l [58,47]]=58→(zar 58 (zau l)).1=l.take (zaA l [58,47])∧(zar 58 (zau l)).1.length=zaA l [58,47]∧(zar 58 (zau l)).2.2=true) ∧
  ((∀h:zaA l [58,47]<l.length,l[zaA l [58,47]]≠58)→(zar 58 (zau l)).2.2=false)
 | []=>⟨fun h=>absurd h (by simp),fun _=>rfl⟩
 | x::t=>by
  have ih:=zfU t
  rw[zoj]
  by_cases h47:x=47
  ·subst h47
   have e:zaA (47::t) [58,47]=0:=by rw[zfE,if_pos (by decide)]
   rw[if_pos rfl]
   refine⟨fun h he=>?_,fun _=>rfl⟩
   simp only[e] at he
   exact absurd he (by simp)
  ·rw[if_neg h47,zcx]
   by_cases h58:x=58
   ·subst h58
    have e:zaA (58::t) [58,47]=0:=by rw[zfE,if_pos (by decide)]
    rw[if_pos rfl]
    refine⟨fun h he=>by simp[e],fun h=>?_⟩
    exact absurd (by simp[e]) (h (by simp[e]))
   ·have e:zaA (x::t) [58,47]=zaA t [58,47]+1:=by rw[zfE,if_neg (by simp[zbe,h47,h58])]
    rw[if_neg h58]
    simp only[e]
    refine⟨fun h he=>?_,fun h=>?_⟩
    ·obtain⟨h1,h2,h3⟩:=ih.1 (by simp at h;omega) (by simpa using he)
     exact⟨by simp[h1],by simp[h2],h3⟩
    ·exact ih.2 (fun h'=>by have:=h (by simp;omega);simpa using this)
theorem zcd (R:List UInt8):(R.take (2+(((zau (R.drop 2)).length:Nat):Int)).toNat).drop 2=zau (R.drop 2):=by
 have hfe:=(zaI (R.drop 2)).1
 rw[show (2+(((zau (R.drop 2)).length:Nat):Int)).toNat=2+(zau (R.drop 2)).length by omega,←List.take_drop,←hfe]
theorem zbR (R:List UInt8):R.drop (2+(((zau (R.drop 2)).length:Nat):Int)).toNat=(R.drop 2).drop (zau (R.drop 2)).length:=by
 rw[show (2+(((zau (R.drop 2)).length:Nat):Int)).toNat=2+(zau (R.drop 2)).length by omega,List.drop_drop]
def zbj (l2 fr qu:List UInt8) (bf bq:Bool):Int×UriP :=
 if ((zar 58 (zau l2)).2.2&&!zbU (zar 58 (zau l2)).1)=true then (6,zfP)
 else
  let r:=if (zar 58 (zau l2)).2.2=true then l2.drop ((zar 58 (zau l2)).1.length+1) else l2
  (0,{ scheme:=if (zar 58 (zau l2)).2.2=true then (zar 58 (zau l2)).1 else [],auth:=zbh r,path:=zbC r,query:=qu,frag:=fr,hs:=(zar 58 (zau l2)).2.2,ha:=zbN r,hq:=bq,hf:=bf })
theorem zk8 {s l1 l2 fr qu:List UInt8} {bf bq:Bool} (h:¬16384<s.length) (e1:zar 35 s=(l1,fr,bf)) (e2:zar 63 l1=(l2,qu,bq)):zaw s=zbj l2 fr qu bf bq:=by
 unfold zaw zbj zd9 zbB zcB
 rw[if_neg h,e1]
 simp only[e2]
section
variable [Tabs Tryz.prog] {objs:List OB} {K:List OB→AV→Prop}
set_option maxHeartbeats 4000000 in
theorem zo9 (s:List UInt8) (hs:s.length≤140737488351232) (hk:K objs (.tup [zbz (zaw s).2,.i .i64 (zaw s).1])):zad Tryz.prog 82 [.s s] objs K:=by
 refine zaU is_ref06_Split rfl fun C _=>?_
 by_cases hbig:(16384:Int)<↑s.length
 ·unfold zaw at hk
  rw[if_pos (by omega)] at hk
  simp only[c_ref06_Split,hbig,sxZ,z6,z7,z8,j6,j7,j8,j9,x0,x5,x6,x7,x8,x9,y3,y4,reduceCtorEq,↓reduceIte]
  exact hk
 ·have hm:maxLen=2 ^ 63 - 1:=rfl
  simp only[c_ref06_Split,hbig,sxZ,z6,z7,z8,j6,j7,j8,j9,x0,x5,x6,x7,x8,x9,y3,y4,reduceCtorEq,↓reduceIte]
  refine zaf (za3 s [35] (by omega) (by simp;omega) ?_)
  have hsf:∀{l1 l2 fr qu:List UInt8} {bf bq:Bool},zar 35 s=(l1,fr,bf)→zar 63 l1=(l2,qu,bq)→K objs (.tup [zbz (zbj l2 fr qu bf bq).2,.i .i64 (zbj l2 fr qu bf bq).1]):=by
   intro l1 l2 fr qu bf bq e1 e2
   rw[zk8 (by omega) e1 e2] at hk
   exact hk
  clear hk
  have c35:=zeB 35 s
  by_cases h35:(↑(zaA s [35]):Int)<↑s.length
  all_goals simp only[h35,sxZ,z6,z7,z8,j6,j7,j8,j9,x0,x5,x6,x7,x8,x9,y3,y4,reduceCtorEq,↓reduceIte]
  ·refine⟨⟨by omega,by omega⟩,⟨by omega,by omega,by omega⟩,⟨by omega,by omega⟩,?_⟩
   have e35:=c35.1 (by omega)
   have hl1:(s.take (zaA s [35])).length≤s.length:=by rw[List.length_take];omega
   clear c35
   generalize s.take (zaA s [35])=l1 at *
   generalize s.drop (zaA s [35]+1)=fr at *
   have hsf2:=fun {l2 qu:List UInt8} {bq:Bool}=>hsf (l2:=l2) (qu:=qu) (bq:=bq) e35
   refine zaf (za3 l1 [63] (by omega) (by simp;omega) ?_)
   have c63:=zeB 63 l1
   by_cases h63:((zaA l1 [63]:Nat):Int)<((l1.length:Nat):Int)
   all_goals simp only[h63,sxZ,z6,z7,z8,j6,j7,j8,j9,x0,x5,x6,x7,x8,x9,y3,y4,reduceCtorEq,↓reduceIte]
   ·refine⟨⟨by omega,by omega⟩,⟨by omega,by omega,by omega⟩,⟨by omega,by omega⟩,?_⟩
    have e63:=hsf2 (c63.1 (by omega))
    have hl2:(l1.take (zaA l1 [63])).length≤s.length:=by rw[List.length_take];omega
    clear c63
    generalize l1.take (zaA l1 [63])=l2 at *
    generalize l1.drop (zaA l1 [63]+1)=qu at *
    refine zaf (za3 l2 [58,47] (by omega) (by simp;omega) ?_)
    have sch:=zfU l2
    by_cases h3:((zaA l2 [58,47]:Nat):Int)<((l2.length:Nat):Int)
    ·have h3n:zaA l2 [58,47]<l2.length:=by omega
     have eg:l2.getD (zaA l2 [58,47]) 0=l2[zaA l2 [58,47]]:=by rw[List.getD_eq_getElem?_getD,List.getElem?_eq_getElem h3n];rfl
     simp only[h3,sxZ,z6,z7,z8,j6,j7,j8,j9,x0,x5,x6,x7,x8,x9,y3,y4,reduceCtorEq,↓reduceIte]
     refine⟨by omega,?_⟩
     rw[eg]
     by_cases h58:l2[zaA l2 [58,47]]=58
     ·have e58:((l2[zaA l2 [58,47]].toNat:Nat):Int)=58:=by rw[h58];rfl
      obtain⟨q1,q2,q3⟩:=sch.1 h3n h58
      simp only[e58,sxZ,z6,z7,z8,j6,j7,j8,j9,x0,x5,x6,x7,x8,x9,y3,y4,reduceCtorEq,↓reduceIte]
      refine⟨⟨by omega,by omega⟩,?_⟩
      have htl:(l2.take (zaA l2 [58,47])).length≤l2.length:=by rw[List.length_take];omega
      refine zaf (zfu _ (by omega) ?_)
      by_cases hsc:zbU (l2.take (zaA l2 [58,47]))=true
      ·simp only[hsc,sxZ,z6,z7,z8,j6,j7,j8,j9,x0,x5,x6,x7,x8,x9,y3,y4,reduceCtorEq,↓reduceIte]
       refine⟨⟨by omega,by omega⟩,⟨by omega,by omega⟩,⟨by omega,by omega,by omega⟩,?_⟩
       have hdl:(l2.drop (zaA l2 [58,47]+1)).length≤l2.length:=by rw[List.length_drop];omega
       have hq5:min (zaA l2 [58,47]) l2.length=zaA l2 [58,47]:=by omega
       have q4:(zar 58 (zau l2)).1.length=zaA l2 [58,47]:=q2
       refine zaf (zbI (l2.drop (zaA l2 [58,47]+1)) [47,47] (by first|omega|(simp;omega)) ?_)
       by_cases h2s:Lib.hasPrefix (l2.drop (zaA l2 [58,47]+1)) [47,47]=true
       ·have t2:=zbA h2s
        have hfl:=(zaI ((l2.drop (zaA l2 [58,47]+1)).drop 2)).2
        have hix:zaA ((l2.drop (zaA l2 [58,47]+1)).drop 2) [47]=(zau ((l2.drop (zaA l2 [58,47]+1)).drop 2)).length:=zbD 47 _
        have hd2:((l2.drop (zaA l2 [58,47]+1)).drop 2).length=(l2.drop (zaA l2 [58,47]+1)).length - 2:=List.length_drop ..
        simp only[h2s,sxZ,z6,z7,z8,j6,j7,j8,j9,x0,x5,x6,x7,x8,x9,y3,y4,reduceCtorEq,↓reduceIte]
        refine⟨?_,?_⟩
        ·first|omega|exact⟨by omega,by omega⟩|exact⟨by omega,by omega,by omega⟩
        refine zaf (za3 _ [47] (by omega) (by simp;omega) ?_)
        rw[hix]
        simp only[sxZ,z6,z7,z8,j6,j7,j8,j9,x0,x5,x6,x7,x8,x9,y3,y4,reduceCtorEq,↓reduceIte]
        have h2t:zbN (l2.drop (zaA l2 [58,47]+1))=true:=h2s
        simp only[zbj,q1,q3,hsc,List.length_take,hq5,h2t,zbh,zbC,zbz,sxZ,z6,z7,z8,j6,j7,j8,j9,x0,x5,x6,x7,x8,x9,y3,y4,reduceCtorEq,↓reduceIte] at e63
        rw[zcd,zbR]
        refine⟨?_,?_,?_,e63⟩
        ·first|omega|exact⟨by omega,by omega⟩|exact⟨by omega,by omega,by omega⟩
        ·first|omega|exact⟨by omega,by omega⟩|exact⟨by omega,by omega,by omega⟩
        ·first|omega|exact⟨by omega,by omega⟩|exact⟨by omega,by omega,by omega⟩
       ·have h2t:¬zbN (l2.drop (zaA l2 [58,47]+1))=true:=h2s
        simp only[h2s,sxZ,z6,z7,z8,j6,j7,j8,j9,x0,x5,x6,x7,x8,x9,y3,y4,reduceCtorEq,↓reduceIte]
        simp only[zbj,q1,q3,hsc,List.length_take,hq5,h2t,zbh,zbC,zbz,sxZ,z6,z7,z8,j6,j7,j8,j9,x0,x5,x6,x7,x8,x9,y3,y4,reduceCtorEq,↓reduceIte] at e63
        exact e63
      ·simp only[hsc,sxZ,z6,z7,z8,j6,j7,j8,j9,x0,x5,x6,x7,x8,x9,y3,y4,reduceCtorEq,↓reduceIte]
       simp only[zbj,q1,q3,hsc,zfP,zbz,sxZ,z6,z7,z8,j6,j7,j8,j9,x0,x5,x6,x7,x8,x9,y3,y4,reduceCtorEq,↓reduceIte] at e63
       exact e63
     ·have e58:¬((l2[zaA l2 [58,47]].toNat:Nat):Int)=58:=fun e=>h58 (UInt8.toNat_inj.1 (by have:(58:UInt8).toNat=58:=rfl;omega))
      have q3:=sch.2 (fun _=>h58)
      simp only[e58,sxZ,z6,z7,z8,j6,j7,j8,j9,x0,x5,x6,x7,x8,x9,y3,y4,reduceCtorEq,↓reduceIte]
      refine zaf (zbI (l2) [47,47] (by first|omega|(simp;omega)) ?_)
      by_cases h2s:Lib.hasPrefix (l2) [47,47]=true
      ·have t2:=zbA h2s
       have hfl:=(zaI ((l2).drop 2)).2
       have hix:zaA ((l2).drop 2) [47]=(zau ((l2).drop 2)).length:=zbD 47 _
       have hd2:((l2).drop 2).length=(l2).length - 2:=List.length_drop ..
       simp only[h2s,sxZ,z6,z7,z8,j6,j7,j8,j9,x0,x5,x6,x7,x8,x9,y3,y4,reduceCtorEq,↓reduceIte]
       refine⟨?_,?_⟩
       ·first|omega|exact⟨by omega,by omega⟩|exact⟨by omega,by omega,by omega⟩
       refine zaf (za3 _ [47] (by omega) (by simp;omega) ?_)
       rw[hix]
       simp only[sxZ,z6,z7,z8,j6,j7,j8,j9,x0,x5,x6,x7,x8,x9,y3,y4,reduceCtorEq,↓reduceIte]
       have h2t:zbN (l2)=true:=h2s
       simp only[zbj,q3,h2t,zbh,zbC,zbz,sxZ,z6,z7,z8,j6,j7,j8,j9,x0,x5,x6,x7,x8,x9,y3,y4,reduceCtorEq,↓reduceIte] at e63
       rw[zcd,zbR]
       refine⟨?_,?_,?_,e63⟩
       ·first|omega|exact⟨by omega,by omega⟩|exact⟨by omega,by omega,by omega⟩
       ·first|omega|exact⟨by omega,by omega⟩|exact⟨by omega,by omega,by omega⟩
       ·first|omega|exact⟨by omega,by omega⟩|exact⟨by omega,by omega,by omega⟩
      ·have h2t:¬zbN (l2)=true:=h2s
       simp only[h2s,sxZ,z6,z7,z8,j6,j7,j8,j9,x0,x5,x6,x7,x8,x9,y3,y4,reduceCtorEq,↓reduceIte]
       simp only[zbj,q3,h2t,zbh,zbC,zbz,sxZ,z6,z7,z8,j6,j7,j8,j9,x0,x5,x6,x7,x8,x9,y3,y4,reduceCtorEq,↓reduceIte] at e63
       exact e63
    ·have q3:=sch.2 (fun h=>absurd h (by omega))
     simp only[h3,sxZ,z6,z7,z8,j6,j7,j8,j9,x0,x5,x6,x7,x8,x9,y3,y4,reduceCtorEq,↓reduceIte]
     refine zaf (zbI (l2) [47,47] (by first|omega|(simp;omega)) ?_)
     by_cases h2s:Lib.hasPrefix (l2) [47,47]=true
     ·have t2:=zbA h2s
      have hfl:=(zaI ((l2).drop 2)).2
      have hix:zaA ((l2).drop 2) [47]=(zau ((l2).drop 2)).length:=zbD 47 _
      have hd2:((l2).drop 2).length=(l2).length - 2:=List.length_drop ..
      simp only[h2s,sxZ,z6,z7,z8,j6,j7,j8,j9,x0,x5,x6,x7,x8,x9,y3,y4,reduceCtorEq,↓reduceIte]
      refine⟨?_,?_⟩
      ·first|omega|exact⟨by omega,by omega⟩|exact⟨by omega,by omega,by omega⟩
      refine zaf (za3 _ [47] (by omega) (by simp;omega) ?_)
      rw[hix]
      simp only[sxZ,z6,z7,z8,j6,j7,j8,j9,x0,x5,x6,x7,x8,x9,y3,y4,reduceCtorEq,↓reduceIte]
      have h2t:zbN (l2)=true:=h2s
      simp only[zbj,q3,h2t,zbh,zbC,zbz,sxZ,z6,z7,z8,j6,j7,j8,j9,x0,x5,x6,x7,x8,x9,y3,y4,reduceCtorEq,↓reduceIte] at e63
      rw[zcd,zbR]
      refine⟨?_,?_,?_,e63⟩
      ·first|omega|exact⟨by omega,by omega⟩|exact⟨by omega,by omega,by omega⟩
      ·first|omega|exact⟨by omega,by omega⟩|exact⟨by omega,by omega,by omega⟩
      ·first|omega|exact⟨by omega,by omega⟩|exact⟨by omega,by omega,by omega⟩
     ·have h2t:¬zbN (l2)=true:=h2s
      simp only[h2s,sxZ,z6,z7,z8,j6,j7,j8,j9,x0,x5,x6,x7,x8,x9,y3,y4,reduceCtorEq,↓reduceIte]
      simp only[zbj,q3,h2t,zbh,zbC,zbz,sxZ,z6,z7,z8,j6,j7,j8,j9,x0,x5,x6,x7,x8,x9,y3,y4,reduceCtorEq,↓reduceIte] at e63
      exact e63
   ·have e63:=hsf2 (c63.2 (by omega))
    refine zaf (za3 l1 [58,47] (by omega) (by simp;omega) ?_)
    have sch:=zfU l1
    by_cases h3:((zaA l1 [58,47]:Nat):Int)<((l1.length:Nat):Int)
    ·have h3n:zaA l1 [58,47]<l1.length:=by omega
     have eg:l1.getD (zaA l1 [58,47]) 0=l1[zaA l1 [58,47]]:=by rw[List.getD_eq_getElem?_getD,List.getElem?_eq_getElem h3n];rfl
     simp only[h3,sxZ,z6,z7,z8,j6,j7,j8,j9,x0,x5,x6,x7,x8,x9,y3,y4,reduceCtorEq,↓reduceIte]
     refine⟨by omega,?_⟩
     rw[eg]
     by_cases h58:l1[zaA l1 [58,47]]=58
     ·have e58:((l1[zaA l1 [58,47]].toNat:Nat):Int)=58:=by rw[h58];rfl
      obtain⟨q1,q2,q3⟩:=sch.1 h3n h58
      simp only[e58,sxZ,z6,z7,z8,j6,j7,j8,j9,x0,x5,x6,x7,x8,x9,y3,y4,reduceCtorEq,↓reduceIte]
      refine⟨⟨by omega,by omega⟩,?_⟩
      have htl:(l1.take (zaA l1 [58,47])).length≤l1.length:=by rw[List.length_take];omega
      refine zaf (zfu _ (by omega) ?_)
      by_cases hsc:zbU (l1.take (zaA l1 [58,47]))=true
      ·simp only[hsc,sxZ,z6,z7,z8,j6,j7,j8,j9,x0,x5,x6,x7,x8,x9,y3,y4,reduceCtorEq,↓reduceIte]
       refine⟨⟨by omega,by omega⟩,⟨by omega,by omega⟩,⟨by omega,by omega,by omega⟩,?_⟩
       have hdl:(l1.drop (zaA l1 [58,47]+1)).length≤l1.length:=by rw[List.length_drop];omega
       have hq5:min (zaA l1 [58,47]) l1.length=zaA l1 [58,47]:=by omega
       have q4:(zar 58 (zau l1)).1.length=zaA l1 [58,47]:=q2
       refine zaf (zbI (l1.drop (zaA l1 [58,47]+1)) [47,47] (by first|omega|(simp;omega)) ?_)
       by_cases h2s:Lib.hasPrefix (l1.drop (zaA l1 [58,47]+1)) [47,47]=true
       ·have t2:=zbA h2s
        have hfl:=(zaI ((l1.drop (zaA l1 [58,47]+1)).drop 2)).2
        have hix:zaA ((l1.drop (zaA l1 [58,47]+1)).drop 2) [47]=(zau ((l1.drop (zaA l1 [58,47]+1)).drop 2)).length:=zbD 47 _
        have hd2:((l1.drop (zaA l1 [58,47]+1)).drop 2).length=(l1.drop (zaA l1 [58,47]+1)).length - 2:=List.length_drop ..
        simp only[h2s,sxZ,z6,z7,z8,j6,j7,j8,j9,x0,x5,x6,x7,x8,x9,y3,y4,reduceCtorEq,↓reduceIte]
        refine⟨?_,?_⟩
        ·first|omega|exact⟨by omega,by omega⟩|exact⟨by omega,by omega,by omega⟩
        refine zaf (za3 _ [47] (by omega) (by simp;omega) ?_)
        rw[hix]
        simp only[sxZ,z6,z7,z8,j6,j7,j8,j9,x0,x5,x6,x7,x8,x9,y3,y4,reduceCtorEq,↓reduceIte]
        have h2t:zbN (l1.drop (zaA l1 [58,47]+1))=true:=h2s
        simp only[zbj,q1,q3,hsc,List.length_take,hq5,h2t,zbh,zbC,zbz,sxZ,z6,z7,z8,j6,j7,j8,j9,x0,x5,x6,x7,x8,x9,y3,y4,reduceCtorEq,↓reduceIte] at e63
        rw[zcd,zbR]
        refine⟨?_,?_,?_,e63⟩
        ·first|omega|exact⟨by omega,by omega⟩|exact⟨by omega,by omega,by omega⟩
        ·first|omega|exact⟨by omega,by omega⟩|exact⟨by omega,by omega,by omega⟩
        ·first|omega|exact⟨by omega,by omega⟩|exact⟨by omega,by omega,by omega⟩
       ·have h2t:¬zbN (l1.drop (zaA l1 [58,47]+1))=true:=h2s
        simp only[h2s,sxZ,z6,z7,z8,j6,j7,j8,j9,x0,x5,x6,x7,x8,x9,y3,y4,reduceCtorEq,↓reduceIte]
        simp only[zbj,q1,q3,hsc,List.length_take,hq5,h2t,zbh,zbC,zbz,sxZ,z6,z7,z8,j6,j7,j8,j9,x0,x5,x6,x7,x8,x9,y3,y4,reduceCtorEq,↓reduceIte] at e63
        exact e63
      ·simp only[hsc,sxZ,z6,z7,z8,j6,j7,j8,j9,x0,x5,x6,x7,x8,x9,y3,y4,reduceCtorEq,↓reduceIte]
       simp only[zbj,q1,q3,hsc,zfP,zbz,sxZ,z6,z7,z8,j6,j7,j8,j9,x0,x5,x6,x7,x8,x9,y3,y4,reduceCtorEq,↓reduceIte] at e63
       exact e63
     ·have e58:¬((l1[zaA l1 [58,47]].toNat:Nat):Int)=58:=fun e=>h58 (UInt8.toNat_inj.1 (by have:(58:UInt8).toNat=58:=rfl;omega))
      have q3:=sch.2 (fun _=>h58)
      simp only[e58,sxZ,z6,z7,z8,j6,j7,j8,j9,x0,x5,x6,x7,x8,x9,y3,y4,reduceCtorEq,↓reduceIte]
      refine zaf (zbI (l1) [47,47] (by first|omega|(simp;omega)) ?_)
      by_cases h2s:Lib.hasPrefix (l1) [47,47]=true
      ·have t2:=zbA h2s
       have hfl:=(zaI ((l1).drop 2)).2
       have hix:zaA ((l1).drop 2) [47]=(zau ((l1).drop 2)).length:=zbD 47 _
       have hd2:((l1).drop 2).length=(l1).length - 2:=List.length_drop ..
       simp only[h2s,sxZ,z6,z7,z8,j6,j7,j8,j9,x0,x5,x6,x7,x8,x9,y3,y4,reduceCtorEq,↓reduceIte]
       refine⟨?_,?_⟩
       ·first|omega|exact⟨by omega,by omega⟩|exact⟨by omega,by omega,by omega⟩
       refine zaf (za3 _ [47] (by omega) (by simp;omega) ?_)
       rw[hix]
       simp only[sxZ,z6,z7,z8,j6,j7,j8,j9,x0,x5,x6,x7,x8,x9,y3,y4,reduceCtorEq,↓reduceIte]
       have h2t:zbN (l1)=true:=h2s
       simp only[zbj,q3,h2t,zbh,zbC,zbz,sxZ,z6,z7,z8,j6,j7,j8,j9,x0,x5,x6,x7,x8,x9,y3,y4,reduceCtorEq,↓reduceIte] at e63
       rw[zcd,zbR]
       refine⟨?_,?_,?_,e63⟩
       ·first|omega|exact⟨by omega,by omega⟩|exact⟨by omega,by omega,by omega⟩
       ·first|omega|exact⟨by omega,by omega⟩|exact⟨by omega,by omega,by omega⟩
       ·first|omega|exact⟨by omega,by omega⟩|exact⟨by omega,by omega,by omega⟩
      ·have h2t:¬zbN (l1)=true:=h2s
       simp only[h2s,sxZ,z6,z7,z8,j6,j7,j8,j9,x0,x5,x6,x7,x8,x9,y3,y4,reduceCtorEq,↓reduceIte]
       simp only[zbj,q3,h2t,zbh,zbC,zbz,sxZ,z6,z7,z8,j6,j7,j8,j9,x0,x5,x6,x7,x8,x9,y3,y4,reduceCtorEq,↓reduceIte] at e63
       exact e63
    ·have q3:=sch.2 (fun h=>absurd h (by omega))
     simp only[h3,sxZ,z6,z7,z8,j6,j7,j8,j9,x0,x5,x6,x7,x8,x9,y3,y4,reduceCtorEq,↓reduceIte]
     refine zaf (zbI (l1) [47,47] (by first|omega|(simp;omega)) ?_)
     by_cases h2s:Lib.hasPrefix (l1) [47,47]=true
     ·have t2:=zbA h2s
      have hfl:=(zaI ((l1).drop 2)).2
      have hix:zaA ((l1).drop 2) [47]=(zau ((l1).drop 2)).length:=zbD 47 _
      have hd2:((l1).drop 2).length=(l1).length - 2:=List.length_drop ..
      simp only[h2s,sxZ,z6,z7,z8,j6,j7,j8,j9,x0,x5,x6,x7,x8,x9,y3,y4,reduceCtorEq,↓reduceIte]
      refine⟨?_,?_⟩
      ·first|omega|exact⟨by omega,by omega⟩|exact⟨by omega,by omega,by omega⟩
      refine zaf (za3 _ [47] (by omega) (by simp;omega) ?_)
      rw[hix]
      simp only[sxZ,z6,z7,z8,j6,j7,j8,j9,x0,x5,x6,x7,x8,x9,y3,y4,reduceCtorEq,↓reduceIte]
      have h2t:zbN (l1)=true:=h2s
      simp only[zbj,q3,h2t,zbh,zbC,zbz,sxZ,z6,z7,z8,j6,j7,j8,j9,x0,x5,x6,x7,x8,x9,y3,y4,reduceCtorEq,↓reduceIte] at e63
      rw[zcd,zbR]
      refine⟨?_,?_,?_,e63⟩
      ·first|omega|exact⟨by omega,by omega⟩|exact⟨by omega,by omega,by omega⟩
      ·first|omega|exact⟨by omega,by omega⟩|exact⟨by omega,by omega,by omega⟩
      ·first|omega|exact⟨by omega,by omega⟩|exact⟨by omega,by omega,by omega⟩
     ·have h2t:¬zbN (l1)=true:=h2s
      simp only[h2s,sxZ,z6,z7,z8,j6,j7,j8,j9,x0,x5,x6,x7,x8,x9,y3,y4,reduceCtorEq,↓reduceIte]
      simp only[zbj,q3,h2t,zbh,zbC,zbz,sxZ,z6,z7,z8,j6,j7,j8,j9,x0,x5,x6,x7,x8,x9,y3,y4,reduceCtorEq,↓reduceIte] at e63
      exact e63
  ·have e35:=c35.2 (by omega)
   have hsf2:=fun {l2 qu:List UInt8} {bq:Bool}=>hsf (l2:=l2) (qu:=qu) (bq:=bq) e35
   refine zaf (za3 s [63] (by omega) (by simp;omega) ?_)
   have c63:=zeB 63 s
   by_cases h63:((zaA s [63]:Nat):Int)<((s.length:Nat):Int)
   all_goals simp only[h63,sxZ,z6,z7,z8,j6,j7,j8,j9,x0,x5,x6,x7,x8,x9,y3,y4,reduceCtorEq,↓reduceIte]
   ·refine⟨⟨by omega,by omega⟩,⟨by omega,by omega,by omega⟩,⟨by omega,by omega⟩,?_⟩
    have e63:=hsf2 (c63.1 (by omega))
    have hl2:(s.take (zaA s [63])).length≤s.length:=by rw[List.length_take];omega
    clear c63
    generalize s.take (zaA s [63])=l2 at *
    generalize s.drop (zaA s [63]+1)=qu at *
    refine zaf (za3 l2 [58,47] (by omega) (by simp;omega) ?_)
    have sch:=zfU l2
    by_cases h3:((zaA l2 [58,47]:Nat):Int)<((l2.length:Nat):Int)
    ·have h3n:zaA l2 [58,47]<l2.length:=by omega
     have eg:l2.getD (zaA l2 [58,47]) 0=l2[zaA l2 [58,47]]:=by rw[List.getD_eq_getElem?_getD,List.getElem?_eq_getElem h3n];rfl
     simp only[h3,sxZ,z6,z7,z8,j6,j7,j8,j9,x0,x5,x6,x7,x8,x9,y3,y4,reduceCtorEq,↓reduceIte]
     refine⟨by omega,?_⟩
     rw[eg]
     by_cases h58:l2[zaA l2 [58,47]]=58
     ·have e58:((l2[zaA l2 [58,47]].toNat:Nat):Int)=58:=by rw[h58];rfl
      obtain⟨q1,q2,q3⟩:=sch.1 h3n h58
      simp only[e58,sxZ,z6,z7,z8,j6,j7,j8,j9,x0,x5,x6,x7,x8,x9,y3,y4,reduceCtorEq,↓reduceIte]
      refine⟨⟨by omega,by omega⟩,?_⟩
      have htl:(l2.take (zaA l2 [58,47])).length≤l2.length:=by rw[List.length_take];omega
      refine zaf (zfu _ (by omega) ?_)
      by_cases hsc:zbU (l2.take (zaA l2 [58,47]))=true
      ·simp only[hsc,sxZ,z6,z7,z8,j6,j7,j8,j9,x0,x5,x6,x7,x8,x9,y3,y4,reduceCtorEq,↓reduceIte]
       refine⟨⟨by omega,by omega⟩,⟨by omega,by omega⟩,⟨by omega,by omega,by omega⟩,?_⟩
       have hdl:(l2.drop (zaA l2 [58,47]+1)).length≤l2.length:=by rw[List.length_drop];omega
       have hq5:min (zaA l2 [58,47]) l2.length=zaA l2 [58,47]:=by omega
       have q4:(zar 58 (zau l2)).1.length=zaA l2 [58,47]:=q2
       refine zaf (zbI (l2.drop (zaA l2 [58,47]+1)) [47,47] (by first|omega|(simp;omega)) ?_)
       by_cases h2s:Lib.hasPrefix (l2.drop (zaA l2 [58,47]+1)) [47,47]=true
       ·have t2:=zbA h2s
        have hfl:=(zaI ((l2.drop (zaA l2 [58,47]+1)).drop 2)).2
        have hix:zaA ((l2.drop (zaA l2 [58,47]+1)).drop 2) [47]=(zau ((l2.drop (zaA l2 [58,47]+1)).drop 2)).length:=zbD 47 _
        have hd2:((l2.drop (zaA l2 [58,47]+1)).drop 2).length=(l2.drop (zaA l2 [58,47]+1)).length - 2:=List.length_drop ..
        simp only[h2s,sxZ,z6,z7,z8,j6,j7,j8,j9,x0,x5,x6,x7,x8,x9,y3,y4,reduceCtorEq,↓reduceIte]
        refine⟨?_,?_⟩
        ·first|omega|exact⟨by omega,by omega⟩|exact⟨by omega,by omega,by omega⟩
        refine zaf (za3 _ [47] (by omega) (by simp;omega) ?_)
        rw[hix]
        simp only[sxZ,z6,z7,z8,j6,j7,j8,j9,x0,x5,x6,x7,x8,x9,y3,y4,reduceCtorEq,↓reduceIte]
        have h2t:zbN (l2.drop (zaA l2 [58,47]+1))=true:=h2s
        simp only[zbj,q1,q3,hsc,List.length_take,hq5,h2t,zbh,zbC,zbz,sxZ,z6,z7,z8,j6,j7,j8,j9,x0,x5,x6,x7,x8,x9,y3,y4,reduceCtorEq,↓reduceIte] at e63
        rw[zcd,zbR]
        refine⟨?_,?_,?_,e63⟩
        ·first|omega|exact⟨by omega,by omega⟩|exact⟨by omega,by omega,by omega⟩
        ·first|omega|exact⟨by omega,by omega⟩|exact⟨by omega,by omega,by omega⟩
        ·first|omega|exact⟨by omega,by omega⟩|exact⟨by omega,by omega,by omega⟩
       ·have h2t:¬zbN (l2.drop (zaA l2 [58,47]+1))=true:=h2s
        simp only[h2s,sxZ,z6,z7,z8,j6,j7,j8,j9,x0,x5,x6,x7,x8,x9,y3,y4,reduceCtorEq,↓reduceIte]
        simp only[zbj,q1,q3,hsc,List.length_take,hq5,h2t,zbh,zbC,zbz,sxZ,z6,z7,z8,j6,j7,j8,j9,x0,x5,x6,x7,x8,x9,y3,y4,reduceCtorEq,↓reduceIte] at e63
        exact e63
      ·simp only[hsc,sxZ,z6,z7,z8,j6,j7,j8,j9,x0,x5,x6,x7,x8,x9,y3,y4,reduceCtorEq,↓reduceIte]
       simp only[zbj,q1,q3,hsc,zfP,zbz,sxZ,z6,z7,z8,j6,j7,j8,j9,x0,x5,x6,x7,x8,x9,y3,y4,reduceCtorEq,↓reduceIte] at e63
       exact e63
     ·have e58:¬((l2[zaA l2 [58,47]].toNat:Nat):Int)=58:=fun e=>h58 (UInt8.toNat_inj.1 (by have:(58:UInt8).toNat=58:=rfl;omega))
      have q3:=sch.2 (fun _=>h58)
      simp only[e58,sxZ,z6,z7,z8,j6,j7,j8,j9,x0,x5,x6,x7,x8,x9,y3,y4,reduceCtorEq,↓reduceIte]
      refine zaf (zbI (l2) [47,47] (by first|omega|(simp;omega)) ?_)
      by_cases h2s:Lib.hasPrefix (l2) [47,47]=true
      ·have t2:=zbA h2s
       have hfl:=(zaI ((l2).drop 2)).2
       have hix:zaA ((l2).drop 2) [47]=(zau ((l2).drop 2)).length:=zbD 47 _
       have hd2:((l2).drop 2).length=(l2).length - 2:=List.length_drop ..
       simp only[h2s,sxZ,z6,z7,z8,j6,j7,j8,j9,x0,x5,x6,x7,x8,x9,y3,y4,reduceCtorEq,↓reduceIte]
       refine⟨?_,?_⟩
       ·first|omega|exact⟨by omega,by omega⟩|exact⟨by omega,by omega,by omega⟩
       refine zaf (za3 _ [47] (by omega) (by simp;omega) ?_)
       rw[hix]
       simp only[sxZ,z6,z7,z8,j6,j7,j8,j9,x0,x5,x6,x7,x8,x9,y3,y4,reduceCtorEq,↓reduceIte]
       have h2t:zbN (l2)=true:=h2s
       simp only[zbj,q3,h2t,zbh,zbC,zbz,sxZ,z6,z7,z8,j6,j7,j8,j9,x0,x5,x6,x7,x8,x9,y3,y4,reduceCtorEq,↓reduceIte] at e63
       rw[zcd,zbR]
       refine⟨?_,?_,?_,e63⟩
       ·first|omega|exact⟨by omega,by omega⟩|exact⟨by omega,by omega,by omega⟩
       ·first|omega|exact⟨by omega,by omega⟩|exact⟨by omega,by omega,by omega⟩
       ·first|omega|exact⟨by omega,by omega⟩|exact⟨by omega,by omega,by omega⟩
      ·have h2t:¬zbN (l2)=true:=h2s
       simp only[h2s,sxZ,z6,z7,z8,j6,j7,j8,j9,x0,x5,x6,x7,x8,x9,y3,y4,reduceCtorEq,↓reduceIte]
       simp only[zbj,q3,h2t,zbh,zbC,zbz,sxZ,z6,z7,z8,j6,j7,j8,j9,x0,x5,x6,x7,x8,x9,y3,y4,reduceCtorEq,↓reduceIte] at e63
       exact e63
    ·have q3:=sch.2 (fun h=>absurd h (by omega))
     simp only[h3,sxZ,z6,z7,z8,j6,j7,j8,j9,x0,x5,x6,x7,x8,x9,y3,y4,reduceCtorEq,↓reduceIte]
     refine zaf (zbI (l2) [47,47] (by first|omega|(simp;omega)) ?_)
     by_cases h2s:Lib.hasPrefix (l2) [47,47]=true
     ·have t2:=zbA h2s
      have hfl:=(zaI ((l2).drop 2)).2
      have hix:zaA ((l2).drop 2) [47]=(zau ((l2).drop 2)).length:=zbD 47 _
      have hd2:((l2).drop 2).length=(l2).length - 2:=List.length_drop ..
      simp only[h2s,sxZ,z6,z7,z8,j6,j7,j8,j9,x0,x5,x6,x7,x8,x9,y3,y4,reduceCtorEq,↓reduceIte]
      refine⟨?_,?_⟩
      ·first|omega|exact⟨by omega,by omega⟩|exact⟨by omega,by omega,by omega⟩
      refine zaf (za3 _ [47] (by omega) (by simp;omega) ?_)
      rw[hix]
      simp only[sxZ,z6,z7,z8,j6,j7,j8,j9,x0,x5,x6,x7,x8,x9,y3,y4,reduceCtorEq,↓reduceIte]
      have h2t:zbN (l2)=true:=h2s
      simp only[zbj,q3,h2t,zbh,zbC,zbz,sxZ,z6,z7,z8,j6,j7,j8,j9,x0,x5,x6,x7,x8,x9,y3,y4,reduceCtorEq,↓reduceIte] at e63
      rw[zcd,zbR]
      refine⟨?_,?_,?_,e63⟩
      ·first|omega|exact⟨by omega,by omega⟩|exact⟨by omega,by omega,by omega⟩
      ·first|omega|exact⟨by omega,by omega⟩|exact⟨by omega,by omega,by omega⟩
      ·first|omega|exact⟨by omega,by omega⟩|exact⟨by omega,by omega,by omega⟩
     ·have h2t:¬zbN (l2)=true:=h2s
      simp only[h2s,sxZ,z6,z7,z8,j6,j7,j8,j9,x0,x5,x6,x7,x8,x9,y3,y4,reduceCtorEq,↓reduceIte]
      simp only[zbj,q3,h2t,zbh,zbC,zbz,sxZ,z6,z7,z8,j6,j7,j8,j9,x0,x5,x6,x7,x8,x9,y3,y4,reduceCtorEq,↓reduceIte] at e63
      exact e63
   ·have e63:=hsf2 (c63.2 (by omega))
    refine zaf (za3 s [58,47] (by omega) (by simp;omega) ?_)
    have sch:=zfU s
    by_cases h3:((zaA s [58,47]:Nat):Int)<((s.length:Nat):Int)
    ·have h3n:zaA s [58,47]<s.length:=by omega
     have eg:s.getD (zaA s [58,47]) 0=s[zaA s [58,47]]:=by rw[List.getD_eq_getElem?_getD,List.getElem?_eq_getElem h3n];rfl
     simp only[h3,sxZ,z6,z7,z8,j6,j7,j8,j9,x0,x5,x6,x7,x8,x9,y3,y4,reduceCtorEq,↓reduceIte]
     refine⟨by omega,?_⟩
     rw[eg]
     by_cases h58:s[zaA s [58,47]]=58
     ·have e58:((s[zaA s [58,47]].toNat:Nat):Int)=58:=by rw[h58];rfl
      obtain⟨q1,q2,q3⟩:=sch.1 h3n h58
      simp only[e58,sxZ,z6,z7,z8,j6,j7,j8,j9,x0,x5,x6,x7,x8,x9,y3,y4,reduceCtorEq,↓reduceIte]
      refine⟨⟨by omega,by omega⟩,?_⟩
      have htl:(s.take (zaA s [58,47])).length≤s.length:=by rw[List.length_take];omega
      refine zaf (zfu _ (by omega) ?_)
      by_cases hsc:zbU (s.take (zaA s [58,47]))=true
      ·simp only[hsc,sxZ,z6,z7,z8,j6,j7,j8,j9,x0,x5,x6,x7,x8,x9,y3,y4,reduceCtorEq,↓reduceIte]
       refine⟨⟨by omega,by omega⟩,⟨by omega,by omega⟩,⟨by omega,by omega,by omega⟩,?_⟩
       have hdl:(s.drop (zaA s [58,47]+1)).length≤s.length:=by rw[List.length_drop];omega
       have hq5:min (zaA s [58,47]) s.length=zaA s [58,47]:=by omega
       have q4:(zar 58 (zau s)).1.length=zaA s [58,47]:=q2
       refine zaf (zbI (s.drop (zaA s [58,47]+1)) [47,47] (by first|omega|(simp;omega)) ?_)
       by_cases h2s:Lib.hasPrefix (s.drop (zaA s [58,47]+1)) [47,47]=true
       ·have t2:=zbA h2s
        have hfl:=(zaI ((s.drop (zaA s [58,47]+1)).drop 2)).2
        have hix:zaA ((s.drop (zaA s [58,47]+1)).drop 2) [47]=(zau ((s.drop (zaA s [58,47]+1)).drop 2)).length:=zbD 47 _
        have hd2:((s.drop (zaA s [58,47]+1)).drop 2).length=(s.drop (zaA s [58,47]+1)).length - 2:=List.length_drop ..
        simp only[h2s,sxZ,z6,z7,z8,j6,j7,j8,j9,x0,x5,x6,x7,x8,x9,y3,y4,reduceCtorEq,↓reduceIte]
        refine⟨?_,?_⟩
        ·first|omega|exact⟨by omega,by omega⟩|exact⟨by omega,by omega,by omega⟩
        refine zaf (za3 _ [47] (by omega) (by simp;omega) ?_)
        rw[hix]
        simp only[sxZ,z6,z7,z8,j6,j7,j8,j9,x0,x5,x6,x7,x8,x9,y3,y4,reduceCtorEq,↓reduceIte]
        have h2t:zbN (s.drop (zaA s [58,47]+1))=true:=h2s
        simp only[zbj,q1,q3,hsc,List.length_take,hq5,h2t,zbh,zbC,zbz,sxZ,z6,z7,z8,j6,j7,j8,j9,x0,x5,x6,x7,x8,x9,y3,y4,reduceCtorEq,↓reduceIte] at e63
        rw[zcd,zbR]
        refine⟨?_,?_,?_,e63⟩
        ·first|omega|exact⟨by omega,by omega⟩|exact⟨by omega,by omega,by omega⟩
        ·first|omega|exact⟨by omega,by omega⟩|exact⟨by omega,by omega,by omega⟩
        ·first|omega|exact⟨by omega,by omega⟩|exact⟨by omega,by omega,by omega⟩
       ·have h2t:¬zbN (s.drop (zaA s [58,47]+1))=true:=h2s
        simp only[h2s,sxZ,z6,z7,z8,j6,j7,j8,j9,x0,x5,x6,x7,x8,x9,y3,y4,reduceCtorEq,↓reduceIte]
        simp only[zbj,q1,q3,hsc,List.length_take,hq5,h2t,zbh,zbC,zbz,sxZ,z6,z7,z8,j6,j7,j8,j9,x0,x5,x6,x7,x8,x9,y3,y4,reduceCtorEq,↓reduceIte] at e63
        exact e63
      ·simp only[hsc,sxZ,z6,z7,z8,j6,j7,j8,j9,x0,x5,x6,x7,x8,x9,y3,y4,reduceCtorEq,↓reduceIte]
       simp only[zbj,q1,q3,hsc,zfP,zbz,sxZ,z6,z7,z8,j6,j7,j8,j9,x0,x5,x6,x7,x8,x9,y3,y4,reduceCtorEq,↓reduceIte] at e63
       exact e63
     ·have e58:¬((s[zaA s [58,47]].toNat:Nat):Int)=58:=fun e=>h58 (UInt8.toNat_inj.1 (by have:(58:UInt8).toNat=58:=rfl;omega))
      have q3:=sch.2 (fun _=>h58)
      simp only[e58,sxZ,z6,z7,z8,j6,j7,j8,j9,x0,x5,x6,x7,x8,x9,y3,y4,reduceCtorEq,↓reduceIte]
      refine zaf (zbI (s) [47,47] (by first|omega|(simp;omega)) ?_)
      by_cases h2s:Lib.hasPrefix (s) [47,47]=true
      ·have t2:=zbA h2s
       have hfl:=(zaI ((s).drop 2)).2
       have hix:zaA ((s).drop 2) [47]=(zau ((s).drop 2)).length:=zbD 47 _
       have hd2:((s).drop 2).length=(s).length - 2:=List.length_drop ..
       simp only[h2s,sxZ,z6,z7,z8,j6,j7,j8,j9,x0,x5,x6,x7,x8,x9,y3,y4,reduceCtorEq,↓reduceIte]
       refine⟨?_,?_⟩
       ·first|omega|exact⟨by omega,by omega⟩|exact⟨by omega,by omega,by omega⟩
       refine zaf (za3 _ [47] (by omega) (by simp;omega) ?_)
       rw[hix]
       simp only[sxZ,z6,z7,z8,j6,j7,j8,j9,x0,x5,x6,x7,x8,x9,y3,y4,reduceCtorEq,↓reduceIte]
       have h2t:zbN (s)=true:=h2s
       simp only[zbj,q3,h2t,zbh,zbC,zbz,sxZ,z6,z7,z8,j6,j7,j8,j9,x0,x5,x6,x7,x8,x9,y3,y4,reduceCtorEq,↓reduceIte] at e63
       rw[zcd,zbR]
       refine⟨?_,?_,?_,e63⟩
       ·first|omega|exact⟨by omega,by omega⟩|exact⟨by omega,by omega,by omega⟩
       ·first|omega|exact⟨by omega,by omega⟩|exact⟨by omega,by omega,by omega⟩
       ·first|omega|exact⟨by omega,by omega⟩|exact⟨by omega,by omega,by omega⟩
      ·have h2t:¬zbN (s)=true:=h2s
       simp only[h2s,sxZ,z6,z7,z8,j6,j7,j8,j9,x0,x5,x6,x7,x8,x9,y3,y4,reduceCtorEq,↓reduceIte]
       simp only[zbj,q3,h2t,zbh,zbC,zbz,sxZ,z6,z7,z8,j6,j7,j8,j9,x0,x5,x6,x7,x8,x9,y3,y4,reduceCtorEq,↓reduceIte] at e63
       exact e63
    ·have q3:=sch.2 (fun h=>absurd h (by omega))
     simp only[h3,sxZ,z6,z7,z8,j6,j7,j8,j9,x0,x5,x6,x7,x8,x9,y3,y4,reduceCtorEq,↓reduceIte]
     refine zaf (zbI (s) [47,47] (by first|omega|(simp;omega)) ?_)
     by_cases h2s:Lib.hasPrefix (s) [47,47]=true
     ·have t2:=zbA h2s
      have hfl:=(zaI ((s).drop 2)).2
      have hix:zaA ((s).drop 2) [47]=(zau ((s).drop 2)).length:=zbD 47 _
      have hd2:((s).drop 2).length=(s).length - 2:=List.length_drop ..
      simp only[h2s,sxZ,z6,z7,z8,j6,j7,j8,j9,x0,x5,x6,x7,x8,x9,y3,y4,reduceCtorEq,↓reduceIte]
      refine⟨?_,?_⟩
      ·first|omega|exact⟨by omega,by omega⟩|exact⟨by omega,by omega,by omega⟩
      refine zaf (za3 _ [47] (by omega) (by simp;omega) ?_)
      rw[hix]
      simp only[sxZ,z6,z7,z8,j6,j7,j8,j9,x0,x5,x6,x7,x8,x9,y3,y4,reduceCtorEq,↓reduceIte]
      have h2t:zbN (s)=true:=h2s
      simp only[zbj,q3,h2t,zbh,zbC,zbz,sxZ,z6,z7,z8,j6,j7,j8,j9,x0,x5,x6,x7,x8,x9,y3,y4,reduceCtorEq,↓reduceIte] at e63
      rw[zcd,zbR]
      refine⟨?_,?_,?_,e63⟩
      ·first|omega|exact⟨by omega,by omega⟩|exact⟨by omega,by omega,by omega⟩
      ·first|omega|exact⟨by omega,by omega⟩|exact⟨by omega,by omega,by omega⟩
      ·first|omega|exact⟨by omega,by omega⟩|exact⟨by omega,by omega,by omega⟩
     ·have h2t:¬zbN (s)=true:=h2s
      simp only[h2s,sxZ,z6,z7,z8,j6,j7,j8,j9,x0,x5,x6,x7,x8,x9,y3,y4,reduceCtorEq,↓reduceIte]
      simp only[zbj,q3,h2t,zbh,zbC,zbz,sxZ,z6,z7,z8,j6,j7,j8,j9,x0,x5,x6,x7,x8,x9,y3,y4,reduceCtorEq,↓reduceIte] at e63
      exact e63
end
end Go.Proofs.YtnnipcgblooemaaGreatDoor
namespace Go.Proofs.YtnnipcgblooemaaGreatDoor
def lbB (c:UInt8):Bool:=za4 c||zal c||(c.toNat==45)
def hyB (c:UInt8):Bool:=c.toNat==45
def zbv (l:List UInt8):Bool:=!l.isEmpty&&decide (l.length≤63)&&!((l.head?.map hyB).getD false)&&!((l.getLast?.map hyB).getD false)&&l.all lbB
def zcz (l:List UInt8):Bool:=(zah 46 l).all zbv&&!zcw ((zah 46 l).getLastD [])
def zcV (l:List UInt8):Bool:=decide ((zaF 255 l).1=0)
def zk2 (n:Nat) (l:List UInt8):Bool:=decide ((zah 46 l).length=n)&&(zah 46 l).all zcV
def zcs (l:List UInt8):Bool:=zk2 4 l
def zaL (l:List UInt8):Int×List UInt8:=if l=[] then (3,[]) else if 253<l.length then (5,[]) else if (zcz l||zcs l)=true then (0,zbm l) else (50,[])
def zc1 (l:List UInt8):Int×Nat:=if (zaF 65535 l).1=0∧(zaF 65535 l).2≠0 then (0,(zaF 65535 l).2) else (51,0)
def zpK (r:Int×Nat):Value:=.tuple #[.int .i64 r.2,.int .i64 r.1]
theorem zkl (s:ByteArray) (h:0<s.size):zbv s.data.toList=(decide (s.size≤63)&&!hyB s[0]&&!hyB s[s.size - 1]&&s.data.toList.all lbB):=by
 have e:=za0 s 0 h
 rw[List.drop_zero] at e
 have e1:s.data.toList.isEmpty=false:=by rw[e];rfl
 have e2:s.data.toList.head? = some s[0]:=by rw[e];rfl
 have e3:s.data.toList.getLast? = some s[s.size - 1]:=by
  rw[List.getLast?_eq_getElem?,zaa,List.getElem?_eq_getElem (by rw[zaa];omega)];rfl
 unfold zbv
 rw[e1,e2,e3,zaa]
 simp only[Option.map_some,Option.getD_some]
 rfl
theorem zim {l:List UInt8} (h:(zar 46 l).2.2=true):zcz l=(zbv (zar 46 l).1&&zcz (zar 46 l).2.1):=by
 unfold zcz
 rw[zaX 46 l,if_pos h]
 obtain⟨p,ps,e⟩:=zaG 46 (zar 46 l).2.1
 rw[e,List.all_cons,Bool.and_assoc]
 rfl
theorem zin {l:List UInt8} (h:(zar 46 l).2.2=false):zcz l=(zbv l&&!zcw l):=by
 unfold zcz
 rw[zaX 46 l,if_neg (by rw[h];exact Bool.false_ne_true)]
 simp[List.getLastD]
theorem zks {l:List UInt8} {n:Nat} (h:(zar 46 l).2.2=true):zk2 (n+1) l=(zcV (zar 46 l).1&&zk2 n (zar 46 l).2.1):=by
 unfold zk2
 rw[zaX 46 l,if_pos h,List.length_cons,List.all_cons]
 have:decide ((zah 46 (zar 46 l).2.1).length+1=n+1)=decide ((zah 46 (zar 46 l).2.1).length=n):=decide_eq_decide.2 (by omega)
 rw[this]
 rcases zcV (zar 46 l).1<;>simp
theorem ipvN_one {l:List UInt8} (h:(zar 46 l).2.2=false):zk2 1 l=zcV l:=by
 unfold zk2
 rw[zaX 46 l,if_neg (by rw[h];exact Bool.false_ne_true)]
 simp
theorem zqH {l:List UInt8} {n:Nat} (h:(zar 46 l).2.2=false):zk2 (n+2) l=false:=by
 unfold zk2
 rw[zaX 46 l,if_neg (by rw[h];exact Bool.false_ne_true)]
 simp
theorem zqI {l:List UInt8} (h:(zar 46 l).2.2=true):zk2 1 l=false:=by
 rw[zks h]
 have:zk2 0 (zar 46 l).2.1=false:=by
  unfold zk2
  have:=zbx 46 (zar 46 l).2.1
  rw[decide_eq_false (by omega)];rfl
 rw[this,Bool.and_false]
theorem zog {l:List UInt8} (h:zbv l=true):1≤l.length:=by
 rcases l with _|⟨c,t⟩
 ·cases h
 ·simp
end Go.Proofs.YtnnipcgblooemaaGreatDoor
namespace Go.Proofs.YtnnipcgblooemaaGreatDoor
open Go.RowKit
theorem hyT {c:UInt8} (h:hyB c=true):((c.toNat:Int)==45)=true:=by
 have:c.toNat=45:=by simpa[hyB] using h
 rw[this];rfl
theorem hyF {c:UInt8} (h:hyB c=false):((c.toNat:Int)==45)=false:=by
 have:c.toNat≠45:=by simpa[hyB] using h
 rw[beq_eq_false_iff_ne];omega
theorem hyT' {c:UInt8} (h:hyB c=true):((c.toNat:Int) != 45)=false:=by
 have:c.toNat=45:=by simpa[hyB] using h
 rw[this];rfl
theorem hyF' {c:UInt8} (h:hyB c=false):((c.toNat:Int) != 45)=true:=by
 have:c.toNat≠45:=by simpa[hyB] using h
 rw[bne_iff_ne];omega
theorem zkj (c:UInt8):lbB c=(za4 c||zal c||hyB c):=rfl
set_option maxHeartbeats 1000000 in
theorem zff (s:ByteArray) (w:World) (hs:s.size≤maxLen) :
  Calls Tryz.prog 173 #[.string s] w fun e w'=>e=.returned (.bool (zbv s.data.toList))∧w=w':=by
 unfold maxLen at hs
 by_cases h0:s.size=0
 ·obtain rfl:s=S []:=zc8 h0
  clear h0 hs
  go_enter Tryz.func173,Tryz.ntmps173
  go_wp2_with fail
  go_ret
  exact⟨rfl,rfl⟩
 have hpos:0<s.size:=by omega
 have HL:=Lib.hid (zkl s hpos)
 have he1:s.toList.isEmpty=false:=by
  rw[ByteArray.toList_eq]
  rcases hl:s.data.toList with _|⟨c,t⟩
  ·have:=zaa s;rw[hl] at this;simp at this;omega
  ·rfl
 clear h0
 by_cases h63:63<s.size
 ·go_enter Tryz.func173,Tryz.ntmps173
  go_wp2_with fail
  go_ret
  exact⟨zak (by rw[HL.out,decide_eq_false (by omega)];rfl),rfl⟩
 have h63':s.size≤63:=by omega
 have hidx:s.size - 1<s.size:=by omega
 clear h63
 rcases hy0:hyB s[0] with _|_
 ·rcases hy1:hyB s[s.size - 1] with _|_
  ·have b0:=hyF hy0
   have b1:=hyF hy1
   have HA:Hid (zbv s.data.toList=s.data.toList.all lbB):=Lib.hid (by rw[HL.out,hy0,hy1,decide_eq_true h63'];simp)
   clear hy0 hy1
   go_enter Tryz.func173,Tryz.ntmps173
   go_wp2_with fail
   clear b0 b1
   go_loop [26] (fun i=>∃k:Nat,k≤s.size∧i=.int .i64 k∧Hid ((s.data.toList.take k).all lbB=true)) (fun i=>s.size - (intOf i).toNat)
   case atStart=>exact⟨0,Nat.zero_le _,rfl,Lib.hid rfl⟩
   case round=>
    obtain⟨k,hk,rfl,HT⟩:=hrel
    by_cases hlt:k<s.size
    ·have hst:lbB s[k]=true→Hid ((s.data.toList.take (k+1)).all lbB=true):=fun h=>Lib.hid (by rw[zce _ _ _ hlt,h,HT.out];rfl)
     have hbad:lbB s[k]=false→Hid (s.data.toList.all lbB=false):=fun h=>Lib.hid (zbk _ _ (k+1) (by rw[zce _ _ _ hlt,h,Bool.and_false]))
     rcases ha:za4 s[k] with _|_
     ·rcases hd:zal s[k] with _|_
      ·rcases hy:hyB s[k] with _|_
       ·have HB:=hbad (by rw[zkj,ha,hd,hy];rfl)
        have b:=hyF' hy
        have H1:=Lib.hid ha
        have H2:=Lib.hid hd
        clear ha hd hy hst hbad
        go_wp2_with fail
        refine(zbd _ _).mono ?_
        rintro e w' ⟨rfl,rfl⟩
        rw[H1.out]
        go_wp2_with fail
        refine(zaW _ _).mono ?_
        rintro e w' ⟨rfl,rfl⟩
        rw[H2.out]
        go_wp2_with fail
        go_ret
        exact⟨zak (by rw[HA.out,HB.out]),rfl⟩
       ·have HB:=hst (by rw[zkj,ha,hd,hy];rfl)
        have b:=hyT' hy
        have H1:=Lib.hid ha
        have H2:=Lib.hid hd
        clear ha hd hy hst hbad
        go_wp2_with fail
        refine(zbd _ _).mono ?_
        rintro e w' ⟨rfl,rfl⟩
        rw[H1.out]
        go_wp2_with fail
        refine(zaW _ _).mono ?_
        rintro e w' ⟨rfl,rfl⟩
        rw[H2.out]
        go_wp2_with fail
        go_round
        case rel=>exact⟨k+1,by omega,by go_num,HB⟩
        case measure=>simp[intOf];omega
      ·have HB:=hst (by rw[zkj,ha,hd];rfl)
       have H1:=Lib.hid ha
       have H2:=Lib.hid hd
       clear ha hd hst hbad
       go_wp2_with fail
       refine(zbd _ _).mono ?_
       rintro e w' ⟨rfl,rfl⟩
       rw[H1.out]
       go_wp2_with fail
       refine(zaW _ _).mono ?_
       rintro e w' ⟨rfl,rfl⟩
       rw[H2.out]
       go_wp2_with fail
       go_round
       case rel=>exact⟨k+1,by omega,by go_num,HB⟩
       case measure=>simp[intOf];omega
     ·have HB:=hst (by rw[zkj,ha];rfl)
      have H1:=Lib.hid ha
      clear ha hst hbad
      go_wp2_with fail
      refine(zbd _ _).mono ?_
      rintro e w' ⟨rfl,rfl⟩
      rw[H1.out]
      go_wp2_with fail
      go_round
      case rel=>exact⟨k+1,by omega,by go_num,HB⟩
      case measure=>simp[intOf];omega
    ·have HB:Hid (s.data.toList.all lbB=true):=Lib.hid (by rw[←zbO s k hlt];exact HT.out)
     go_wp2_with fail
     go_ret
     exact⟨zak (by rw[HA.out,HB.out]),rfl⟩
  ·have b0:=hyF hy0
   have b1:=hyT hy1
   have HA:Hid (zbv s.data.toList=false):=Lib.hid (by rw[HL.out,hy0,hy1];simp)
   clear hy0 hy1
   go_enter Tryz.func173,Tryz.ntmps173
   go_wp2_with fail
   go_ret
   exact⟨zak (by rw[HA.out]),rfl⟩
 ·have b0:=hyT hy0
  have HA:Hid (zbv s.data.toList=false):=Lib.hid (by rw[HL.out,hy0];simp)
  clear hy0
  go_enter Tryz.func173,Tryz.ntmps173
  go_wp2_with fail
  go_ret
  exact⟨zak (by rw[HA.out]),rfl⟩
theorem zf8 (s:ByteArray) (w:World) (hs:s.size≤maxLen) :
  Calls Tryz.prog 141 #[.string s] w fun e w'=>e=.returned (.bool (zcz s.data.toList))∧Qb w w':=by
 unfold maxLen at hs
 go_enter Tryz.func141,Tryz.ntmps141
 go_wp2_with fail
 go_loopw [3,4,5,6,10] (fun r _ _ _ i wr=>∃(k:Nat) (c:ByteArray),k≤s.size∧c.size+k≤s.size∧i=.int .i64 k∧r=.string c∧Hid (zcz s.data.toList=zcz c.data.toList)∧Qb w wr) (fun _ _ _ _ i _=>s.size - (intOf i).toNat)
 case atStart=>exact⟨0,s,Nat.zero_le _,by omega,rfl,rfl,Lib.hid rfl,Qb.refl w⟩
 case round=>
  obtain⟨k,c,hk,hck,rfl,rfl,HN,hq⟩:=hrel
  by_cases hlt:k<s.size
  ·have hl:=zcc 46 c.data.toList
   have hlens:=za5 46 c.data.toList
   obtain⟨p,q,b,hcut⟩:∃p q b,zar 46 c.data.toList=(p,q,b):=⟨_,_,_,rfl⟩
   have HC:=Lib.hid hcut
   have hsp:(S p).size≤maxLen:=by unfold maxLen;rw[zac];rw[hcut] at hlens;have:=hlens.1;rw[zaa] at this;simp at this;omega
   rcases hlb:zbv p with _|_
   ·have HF:Hid (zcz c.data.toList=false):=Lib.hid (by
     rcases hb:b with _|_
     ·subst hb
      have h2:(zar 46 c.data.toList).2.2=false:=by rw[hcut]
      have h3:=(hl.2.2 h2).1
      rw[hcut] at h3
      rw[zin h2,←h3,hlb];rfl
     ·subst hb
      rw[zim (by rw[hcut]),hcut,hlb];rfl)
    have H1:=Lib.hid hlb
    clear hl hlens hcut hlb
    go_wp2_with fail
    refine(zbi c 46 _ (by unfold maxLen;omega)).mono ?_
    rintro e w1 ⟨rfl,hq1⟩
    rw[HC.out]
    unfold zeY
    go_wp2_with fail
    refine(zff _ _ hsp).mono ?_
    rintro e w2 ⟨rfl,rfl⟩
    rw[zab,H1.out]
    go_wp2_with fail
    go_ret
    exact⟨zak (by rw[HN.out,HF.out]),hq.trans hq1⟩
   ·have H1:=Lib.hid hlb
    rcases hb:b with _|_
    ·subst hb
     have h2:(zar 46 c.data.toList).2.2=false:=by rw[hcut]
     have h3:=(hl.2.2 h2).1
     rw[hcut] at h3
     have HF:Hid (zcz c.data.toList=!zcw p):=Lib.hid (by rw[zin h2,←h3,hlb,Bool.true_and])
     clear hl hlens hcut hlb h2 h3
     go_wp2_with fail
     refine(zbi c 46 _ (by unfold maxLen;omega)).mono ?_
     rintro e w1 ⟨rfl,hq1⟩
     rw[HC.out]
     unfold zeY
     go_wp2_with fail
     refine(zff _ _ hsp).mono ?_
     rintro e w2 ⟨rfl,rfl⟩
     rw[zab,H1.out]
     go_wp2_with fail
     refine(zov _ _ hsp).mono ?_
     rintro e w2 ⟨rfl,rfl⟩
     rw[zab]
     go_wp2_with fail
     go_ret
     exact⟨zak (by rw[HN.out,HF.out]),hq.trans hq1⟩
    ·subst hb
     have h2:(zar 46 c.data.toList).2.2=true:=by rw[hcut]
     have h3:=hl.2.1 h2
     rw[hcut,zaa] at h3
     simp only at h3
     have h4:=zog hlb
     have HF:Hid (zcz c.data.toList=zcz (S q).data.toList):=Lib.hid (by rw[zim h2,hcut,hlb,Bool.true_and])
     have h5:(S q).size+(k+1)≤s.size:=by rw[zac];omega
     clear hl hlens hcut hlb h2 h3 h4
     go_wp2_with fail
     refine(zbi c 46 _ (by unfold maxLen;omega)).mono ?_
     rintro e w1 ⟨rfl,hq1⟩
     rw[HC.out]
     unfold zeY
     go_wp2_with fail
     refine(zff _ _ hsp).mono ?_
     rintro e w2 ⟨rfl,rfl⟩
     rw[zab,H1.out]
     go_wp2_with fail
     go_roundw
     case rel=>exact⟨k+1,S q,by omega,h5,by go_num,rfl,Lib.hid (by rw[HN.out,HF.out]),hq.trans hq1⟩
     case measure=>simp[intOf];omega
  ·have hc0:c.size=0:=by omega
   obtain rfl:c=S []:=zc8 hc0
   clear hc0
   go_wp2_with fail
   go_ret
   exact⟨zak (by rw[HN.out];decide),hq⟩
theorem ziC (l:List UInt8):zcV l=decide ((zaF (255:Int).toNat l).1=0):=rfl
theorem zeN (s:ByteArray) (w:World) (hs:s.size≤maxLen) :
  Calls Tryz.prog 122 #[.string s] w fun e w'=>e=.returned (.bool (zcs s.data.toList))∧Qb w w':=by
 unfold maxLen at hs
 go_enter Tryz.func122,Tryz.ntmps122
 go_wp2_with fail
 go_loopw [3,4,5,6,7,8,9,10,12] (fun r _ _ _ _ _ _ _ i wr=>∃(k:Nat) (c:ByteArray),k≤4∧c.size≤s.size∧i=.int .i64 k∧r=.string c∧Hid (zcs s.data.toList=if k=4 then true else zk2 (4 - k) c.data.toList)∧Qb w wr) (fun _ _ _ _ _ _ _ _ i _=>4 - (intOf i).toNat)
 case atStart=>exact⟨0,s,by omega,Nat.le_refl _,rfl,rfl,Lib.hid rfl,Qb.refl w⟩
 case round=>
  obtain⟨k,c,hk,hck,rfl,rfl,HN,hq⟩:=hrel
  by_cases hlt:k<4
  ·have hl:=zcc 46 c.data.toList
   have hlens:=za5 46 c.data.toList
   obtain⟨p,q,b,hcut⟩:∃p q b,zar 46 c.data.toList=(p,q,b):=⟨_,_,_,rfl⟩
   have HC:=Lib.hid hcut
   have hsp:(S p).size≤maxLen:=by unfold maxLen;rw[zac];rw[hcut] at hlens;have:=hlens.1;rw[zaa] at this;simp at this;omega
   have hsq:(S q).size≤s.size:=by rw[zac];rw[hcut] at hlens;have:=hlens.2;rw[zaa] at this;simp at this;omega
   have HN':Hid (zcs s.data.toList=zk2 (4 - k) c.data.toList):=Lib.hid (by rw[HN.out,if_neg (by omega)])
   clear HN
   obtain⟨er,v,hst⟩:∃er v,zaF (255:Int).toNat p=(er,v):=⟨_,_,rfl⟩
   have HS:=Lib.hid hst
   have hok:zcV p=decide (er=0):=by rw[ziC,hst]
   by_cases hk3:k=3
   ·subst hk3
    rcases hb:b with _|_
    ·subst hb
     have h2:(zar 46 c.data.toList).2.2=false:=by rw[hcut]
     have h3:=(hl.2.2 h2).1
     rw[hcut] at h3
     have HF:Hid (zcs s.data.toList=decide (er=0)):=Lib.hid (by rw[HN'.out,show 4 - 3=1 from rfl,ipvN_one h2,←h3,hok])
     clear hl hlens hcut h2 h3 hok hst
     by_cases he:er=0
     ·subst he
      go_wp2_with fail
      refine(zbi c 46 _ (by unfold maxLen;omega)).mono ?_
      rintro e w1 ⟨rfl,hq1⟩
      rw[HC.out]
      unfold zeY
      go_wp2_with fail
      refine(zcg _ _ _ hsp (by decide) (by decide)).mono ?_
      rintro e w2 ⟨rfl,rfl⟩
      rw[zab,HS.out]
      unfold zhO
      go_wp2_with fail
      go_roundw
      case rel=>exact⟨4,S q,by omega,hsq,by go_num,rfl,Lib.hid (by rw[HF.out];rfl),hq.trans hq1⟩
      case measure=>simp[intOf]
     ·have he1:(er != 0)=true:=bne_iff_ne.2 he
      have HF2:Hid (zcs s.data.toList=false):=Lib.hid (by rw[HF.out,decide_eq_false he])
      clear he HF
      go_wp2_with fail
      refine(zbi c 46 _ (by unfold maxLen;omega)).mono ?_
      rintro e w1 ⟨rfl,hq1⟩
      rw[HC.out]
      unfold zeY
      go_wp2_with fail
      refine(zcg _ _ _ hsp (by decide) (by decide)).mono ?_
      rintro e w2 ⟨rfl,rfl⟩
      rw[zab,HS.out]
      unfold zhO
      go_wp2_with fail
      go_ret
      exact⟨zak (by rw[HF2.out]),hq.trans hq1⟩
    ·subst hb
     have HF:Hid (zcs s.data.toList=false):=Lib.hid (by rw[HN'.out,show 4 - 3=1 from rfl,zqI (by rw[hcut])])
     clear hl hlens hcut hok hst
     go_wp2_with fail
     refine(zbi c 46 _ (by unfold maxLen;omega)).mono ?_
     rintro e w1 ⟨rfl,hq1⟩
     rw[HC.out]
     unfold zeY
     go_wp2_with fail
     go_ret
     exact⟨zak (by rw[HF.out]),hq.trans hq1⟩
   ·have hk2:k≤2:=by omega
    have hkb:((k:Int)==3)=false:=by rw[beq_eq_false_iff_ne];omega
    clear hk3
    rcases hb:b with _|_
    ·subst hb
     have HF:Hid (zcs s.data.toList=false):=Lib.hid (by rw[HN'.out,show 4 - k=(2 - k)+2 from by omega,zqH (by rw[hcut])])
     clear hl hlens hcut hok hst
     go_wp2_with fail
     refine(zbi c 46 _ (by unfold maxLen;omega)).mono ?_
     rintro e w1 ⟨rfl,hq1⟩
     rw[HC.out]
     unfold zeY
     go_wp2_with fail
     go_ret
     exact⟨zak (by rw[HF.out]),hq.trans hq1⟩
    ·subst hb
     have HF:Hid (zcs s.data.toList=(decide (er=0)&&zk2 (4 - (k+1)) (S q).data.toList)):=Lib.hid (by rw[HN'.out,show 4 - k=(4 - (k+1))+1 from by omega,zks (by rw[hcut]),hcut,hok])
     clear hl hlens hcut hok hst
     by_cases he:er=0
     ·subst he
      go_wp2_with fail
      refine(zbi c 46 _ (by unfold maxLen;omega)).mono ?_
      rintro e w1 ⟨rfl,hq1⟩
      rw[HC.out]
      unfold zeY
      go_wp2_with fail
      refine(zcg _ _ _ hsp (by decide) (by decide)).mono ?_
      rintro e w2 ⟨rfl,rfl⟩
      rw[zab,HS.out]
      unfold zhO
      go_wp2_with fail
      go_roundw
      case rel=>exact⟨k+1,S q,by omega,hsq,by go_num,rfl,Lib.hid (by rw[HF.out,if_neg (by omega)];rfl),hq.trans hq1⟩
      case measure=>simp[intOf];omega
     ·have he1:(er != 0)=true:=bne_iff_ne.2 he
      have HF2:Hid (zcs s.data.toList=false):=Lib.hid (by rw[HF.out,decide_eq_false he];rfl)
      clear he HF
      go_wp2_with fail
      refine(zbi c 46 _ (by unfold maxLen;omega)).mono ?_
      rintro e w1 ⟨rfl,hq1⟩
      rw[HC.out]
      unfold zeY
      go_wp2_with fail
      refine(zcg _ _ _ hsp (by decide) (by decide)).mono ?_
      rintro e w2 ⟨rfl,rfl⟩
      rw[zab,HS.out]
      unfold zhO
      go_wp2_with fail
      go_ret
      exact⟨zak (by rw[HF2.out]),hq.trans hq1⟩
  ·obtain rfl:k=4:=by omega
   go_wp2_with fail
   go_ret
   exact⟨zak (by rw[HN.out];rfl),hq⟩
end Go.Proofs.YtnnipcgblooemaaGreatDoor
namespace Go.Proofs.YtnnipcgblooemaaGreatDoor
open Go.RowKit
theorem zeb {s:ByteArray} (h:0<s.size):s.toList.isEmpty=false:=by
 rw[ByteArray.toList_eq]
 rcases hl:s.data.toList with _|⟨c,t⟩
 ·have:=zaa s;rw[hl] at this;simp at this;omega
 ·rfl
theorem zqd {s:ByteArray} (h:0<s.size):s.data.toList≠[]:=fun e=>by have:=zaa s;rw[e] at this;simp at this;omega
theorem zcN (s:ByteArray) (w:World) (hs:s.size≤maxLen) :
  Calls Tryz.prog 119 #[.string s] w fun e w'=>e=.returned (zcZ (zaL s.data.toList))∧Qb w w':=by
 by_cases h0:s.size=0
 ·obtain rfl:s=S []:=zc8 h0
  clear h0 hs
  go_enter Tryz.func119,Tryz.ntmps119
  go_wp2_with fail
  go_ret2
  exact⟨rfl,Qb.refl _⟩
 have hpos:0<s.size:=by omega
 have he1:=zeb hpos
 have hne:=Lib.hid (zqd hpos)
 clear h0
 by_cases h253:253<s.size
 ·have HE:Hid (zaL s.data.toList=(5,[])):=Lib.hid (by unfold zaL;rw[if_neg hne.out,if_pos (by rw[zaa];exact h253)])
  go_enter Tryz.func119,Tryz.ntmps119
  go_wp2_with fail
  go_ret2
  exact⟨by rw[HE.out];rfl,Qb.refl _⟩
 have h253':s.size≤253:=by omega
 have hml:s.size≤maxLen:=by unfold maxLen;omega
 have HE:Hid (zaL s.data.toList=if (zcz s.data.toList||zcs s.data.toList)=true then (0,zbm s.data.toList) else (50,[])):=Lib.hid (by unfold zaL;rw[if_neg hne.out,if_neg (by rw[zaa];omega)])
 clear h253
 rcases h1:zcz s.data.toList with _|_
 ·rcases h2:zcs s.data.toList with _|_
  ·have HF:Hid (zaL s.data.toList=(50,[])):=Lib.hid (by rw[HE.out,h1,h2];rfl)
   have H1:=Lib.hid h1
   have H2:=Lib.hid h2
   clear h1 h2
   go_enter Tryz.func119,Tryz.ntmps119
   go_wp2_with fail
   refine(zf8 s _ hml).mono ?_
   rintro e w1 ⟨rfl,hq1⟩
   rw[H1.out]
   go_wp2_with fail
   refine(zeN s _ hml).mono ?_
   rintro e w2 ⟨rfl,hq2⟩
   rw[H2.out]
   go_wp2_with fail
   go_ret2
   exact⟨by rw[HF.out];rfl,hq1.trans hq2⟩
  ·have HF:Hid (zaL s.data.toList=(0,zbm s.data.toList)):=Lib.hid (by rw[HE.out,h1,h2];rfl)
   have H1:=Lib.hid h1
   have H2:=Lib.hid h2
   clear h1 h2
   go_enter Tryz.func119,Tryz.ntmps119
   go_wp2_with fail
   refine(zf8 s _ hml).mono ?_
   rintro e w1 ⟨rfl,hq1⟩
   rw[H1.out]
   go_wp2_with fail
   refine(zeN s _ hml).mono ?_
   rintro e w2 ⟨rfl,hq2⟩
   rw[H2.out]
   go_wp2_with fail
   refine(zhN s _ (by omega)).mono ?_
   rintro e w3 ⟨rfl,hq3⟩
   go_wp2_with fail
   go_ret2
   exact⟨by rw[HF.out];rfl,(hq1.trans hq2).trans hq3⟩
 ·have HF:Hid (zaL s.data.toList=(0,zbm s.data.toList)):=Lib.hid (by rw[HE.out,h1];simp)
  have H1:=Lib.hid h1
  clear h1
  go_enter Tryz.func119,Tryz.ntmps119
  go_wp2_with fail
  refine(zf8 s _ hml).mono ?_
  rintro e w1 ⟨rfl,hq1⟩
  rw[H1.out]
  go_wp2_with fail
  refine(zhN s _ (by omega)).mono ?_
  rintro e w3 ⟨rfl,hq3⟩
  go_wp2_with fail
  go_ret2
  exact⟨by rw[HF.out];rfl,hq1.trans hq3⟩
theorem zjz (s:ByteArray) (w:World) (hs:s.size≤maxLen) :
  Calls Tryz.prog 163 #[.string s] w fun e w'=>e=.returned (zpK (zc1 s.data.toList))∧w=w':=by
 obtain⟨er,v,hst⟩:∃er v,zaF (65535:Int).toNat s.data.toList=(er,v):=⟨_,_,rfl⟩
 have HS:=Lib.hid hst
 have hle:=ze5 65535 s.data.toList
 rw[show zaF 65535 s.data.toList=(er,v) from hst] at hle
 have HP:Hid (zc1 s.data.toList=if er=0∧v≠0 then (0,v) else (51,0)):=Lib.hid (by
  unfold zc1;rw[show zaF 65535 s.data.toList=(er,v) from hst])
 simp only at hle
 clear hst
 by_cases he:er=0
 ·subst he
  by_cases hv:v=0
  ·subst hv
   go_enter Tryz.func163,Tryz.ntmps163
   go_wp2_with fail
   refine(zcg _ _ _ hs (by decide) (by decide)).mono ?_
   rintro e w2 ⟨rfl,rfl⟩
   rw[HS.out]
   unfold zhO
   go_wp2_with fail
   go_ret2
   exact⟨by rw[HP.out];rfl,rfl⟩
  ·have hb:((v:Int)==0)=false:=by rw[beq_eq_false_iff_ne];omega
   have HF:Hid (zc1 s.data.toList=(0,v)):=Lib.hid (by rw[HP.out,if_pos ⟨rfl,hv⟩])
   clear hv
   go_enter Tryz.func163,Tryz.ntmps163
   go_wp2_with fail
   refine(zcg _ _ _ hs (by decide) (by decide)).mono ?_
   rintro e w2 ⟨rfl,rfl⟩
   rw[HS.out]
   unfold zhO
   go_wp2_with fail
   go_ret2
   exact⟨by rw[HF.out];rfl,rfl⟩
 ·have hb:(er != 0)=true:=bne_iff_ne.2 he
  have HF:Hid (zc1 s.data.toList=(51,0)):=Lib.hid (by rw[HP.out,if_neg (fun h=>he h.1)])
  clear he
  go_enter Tryz.func163,Tryz.ntmps163
  go_wp2_with fail
  refine(zcg _ _ _ hs (by decide) (by decide)).mono ?_
  rintro e w2 ⟨rfl,rfl⟩
  rw[HS.out]
  unfold zhO
  go_wp2_with fail
  go_ret2
  exact⟨by rw[HF.out];rfl,rfl⟩
theorem zpy (s:ByteArray) (w:World) (hs:s.size≤maxLen) :
  Calls Tryz.prog 113 #[.string s] w fun e w'=>e=.returned (zpK (zc1 s.data.toList))∧w=w':=by
 obtain⟨er,v,hst⟩:∃er v,zaF (65535:Int).toNat s.data.toList=(er,v):=⟨_,_,rfl⟩
 have HS:=Lib.hid hst
 have hle:=ze5 65535 s.data.toList
 rw[show zaF 65535 s.data.toList=(er,v) from hst] at hle
 have HP:Hid (zc1 s.data.toList=if er=0∧v≠0 then (0,v) else (51,0)):=Lib.hid (by
  unfold zc1;rw[show zaF 65535 s.data.toList=(er,v) from hst])
 simp only at hle
 clear hst
 by_cases he:er=0
 ·subst he
  by_cases hv:v=0
  ·subst hv
   go_enter Tryz.func113,Tryz.ntmps113
   go_wp2_with fail
   refine(zdj _ _ _ hs (by decide) (by decide)).mono ?_
   rintro e w2 ⟨rfl,rfl⟩
   rw[HS.out]
   unfold zhO
   go_wp2_with fail
   go_ret2
   exact⟨by rw[HP.out];rfl,rfl⟩
  ·have hb:((v:Int)==0)=false:=by rw[beq_eq_false_iff_ne];omega
   have HF:Hid (zc1 s.data.toList=(0,v)):=Lib.hid (by rw[HP.out,if_pos ⟨rfl,hv⟩])
   clear hv
   go_enter Tryz.func113,Tryz.ntmps113
   go_wp2_with fail
   refine(zdj _ _ _ hs (by decide) (by decide)).mono ?_
   rintro e w2 ⟨rfl,rfl⟩
   rw[HS.out]
   unfold zhO
   go_wp2_with fail
   go_ret2
   exact⟨by rw[HF.out];rfl,rfl⟩
 ·have hb:(er != 0)=true:=bne_iff_ne.2 he
  have HF:Hid (zc1 s.data.toList=(51,0)):=Lib.hid (by rw[HP.out,if_neg (fun h=>he h.1)])
  clear he
  go_enter Tryz.func113,Tryz.ntmps113
  go_wp2_with fail
  refine(zdj _ _ _ hs (by decide) (by decide)).mono ?_
  rintro e w2 ⟨rfl,rfl⟩
  rw[HS.out]
  unfold zhO
  go_wp2_with fail
  go_ret2
  exact⟨by rw[HF.out];rfl,rfl⟩
theorem zic (s:ByteArray) (h:0<s.size):zbv s.data.toList=(s.data.toList.all lbB&&decide (s.size≤63)&&!hyB s[0]&&!hyB s[s.size - 1]):=by
 rw[zkl s h]
 rcases decide (s.size≤63)<;>rcases hyB s[0]<;>rcases hyB s[s.size - 1]<;>rcases s.data.toList.all lbB<;>rfl
set_option maxHeartbeats 1000000 in
theorem zid (s:ByteArray) (w:World) (hs:s.size≤maxLen) :
  Calls Tryz.prog 109 #[.string s] w fun e w'=>e=.returned (.bool (zbv s.data.toList))∧w=w':=by
 unfold maxLen at hs
 go_enter Tryz.func109,Tryz.ntmps109
 go_wp2_with fail
 go_loop [3] (fun i=>∃k:Nat,k≤s.size∧i=.int .i64 k∧Hid ((s.data.toList.take k).all lbB=true)) (fun i=>s.size - (intOf i).toNat)
 case atStart=>exact⟨0,Nat.zero_le _,rfl,Lib.hid rfl⟩
 case round=>
  obtain⟨k,hk,rfl,HT⟩:=hrel
  by_cases hlt:k<s.size
  ·have hpos:0<s.size:=by omega
   have HL:=Lib.hid (zic s hpos)
   have hst:lbB s[k]=true→Hid ((s.data.toList.take (k+1)).all lbB=true):=fun h=>Lib.hid (by rw[zce _ _ _ hlt,h,HT.out];rfl)
   have hbad:lbB s[k]=false→Hid (zbv s.data.toList=false):=fun h=>Lib.hid (by rw[HL.out,zbk _ _ (k+1) (by rw[zce _ _ _ hlt,h,Bool.and_false])];rfl)
   rcases ha:za4 s[k] with _|_
   ·rcases hd:zal s[k] with _|_
    ·rcases hy:hyB s[k] with _|_
     ·have HB:=hbad (by rw[zkj,ha,hd,hy];rfl)
      have b:=hyF' hy
      have H1:=Lib.hid ha
      have H2:=Lib.hid hd
      clear ha hd hy hst hbad
      go_wp2_with fail
      refine(za7 _ _).mono ?_
      rintro e w' ⟨rfl,rfl⟩
      rw[H1.out]
      go_wp2_with fail
      refine(za6 _ _).mono ?_
      rintro e w' ⟨rfl,rfl⟩
      rw[H2.out]
      go_wp2_with fail
      go_ret
      exact⟨zak (by rw[HB.out]),rfl⟩
     ·have HB:=hst (by rw[zkj,ha,hd,hy];rfl)
      have b:=hyT' hy
      have H1:=Lib.hid ha
      have H2:=Lib.hid hd
      clear ha hd hy hst hbad
      go_wp2_with fail
      refine(za7 _ _).mono ?_
      rintro e w' ⟨rfl,rfl⟩
      rw[H1.out]
      go_wp2_with fail
      refine(za6 _ _).mono ?_
      rintro e w' ⟨rfl,rfl⟩
      rw[H2.out]
      go_wp2_with fail
      go_round
      case rel=>exact⟨k+1,by omega,by go_num,HB⟩
      case measure=>simp[intOf];omega
    ·have HB:=hst (by rw[zkj,ha,hd];rfl)
     have H1:=Lib.hid ha
     have H2:=Lib.hid hd
     clear ha hd hst hbad
     go_wp2_with fail
     refine(za7 _ _).mono ?_
     rintro e w' ⟨rfl,rfl⟩
     rw[H1.out]
     go_wp2_with fail
     refine(za6 _ _).mono ?_
     rintro e w' ⟨rfl,rfl⟩
     rw[H2.out]
     go_wp2_with fail
     go_round
     case rel=>exact⟨k+1,by omega,by go_num,HB⟩
     case measure=>simp[intOf];omega
   ·have HB:=hst (by rw[zkj,ha];rfl)
    have H1:=Lib.hid ha
    clear ha hst hbad
    go_wp2_with fail
    refine(za7 _ _).mono ?_
    rintro e w' ⟨rfl,rfl⟩
    rw[H1.out]
    go_wp2_with fail
    go_round
    case rel=>exact⟨k+1,by omega,by go_num,HB⟩
    case measure=>simp[intOf];omega
  ·have HA:Hid (s.data.toList.all lbB=true):=Lib.hid (by rw[←zbO s k hlt];exact HT.out)
   obtain rfl:k=s.size:=by omega
   clear HT hlt
   by_cases h0:s.size=0
   ·obtain rfl:s=S []:=zc8 h0
    clear h0 hs hk HA
    go_wp2_with fail
    go_ret
    exact⟨rfl,rfl⟩
   have hpos:0<s.size:=by omega
   have he1:=zeb hpos
   have HL:Hid (zbv s.data.toList=(decide (s.size≤63)&&!hyB s[0]&&!hyB s[s.size - 1])):=Lib.hid (by rw[zic s hpos,HA.out,Bool.true_and])
   have hidx:s.size - 1<s.size:=by omega
   clear h0
   by_cases h63:s.size≤63
   ·rcases hy0:hyB s[0] with _|_
    ·rcases hy1:hyB s[s.size - 1] with _|_
     ·have b0:=hyF' hy0
      have b1:=hyF' hy1
      have HF:Hid (zbv s.data.toList=true):=Lib.hid (by rw[HL.out,hy0,hy1,decide_eq_true h63];rfl)
      clear hy0 hy1
      go_wp2_with fail
      go_ret
      exact⟨zak (by rw[HF.out]),rfl⟩
     ·have b0:=hyF' hy0
      have b1:=hyT' hy1
      have HF:Hid (zbv s.data.toList=false):=Lib.hid (by rw[HL.out,hy0,hy1];simp)
      clear hy0 hy1
      go_wp2_with fail
      go_ret
      exact⟨zak (by rw[HF.out]),rfl⟩
    ·have b0:=hyT' hy0
     have HF:Hid (zbv s.data.toList=false):=Lib.hid (by rw[HL.out,hy0];simp)
     clear hy0
     go_wp2_with fail
     go_ret
     exact⟨zak (by rw[HF.out]),rfl⟩
   ·have HF:Hid (zbv s.data.toList=false):=Lib.hid (by rw[HL.out,decide_eq_false h63];rfl)
    go_wp2_with fail
    go_ret
    exact⟨zak (by rw[HF.out]),rfl⟩
theorem zc2 (c:UInt8):∀(l x:List UInt8),x∈zah c l→x.length≤l.length
 | [],x,h=>by simp[zah] at h;subst h;simp
 | y::t,x,h=>by
  rw[zaE] at h
  by_cases hy:y=c
  ·rw[if_pos hy] at h
   rcases List.mem_cons.1 h with rfl|h
   ·simp
   ·have:=zc2 c t x h;simp;omega
  ·obtain⟨p,ps,e⟩:=zaG c t
   have ih:=zc2 c t
   rw[if_neg hy,e] at h
   rw[e] at ih
   rcases List.mem_cons.1 h with rfl|h
   ·have:=ih p (by simp);simp;omega
   ·have:=ih x (List.mem_cons_of_mem _ h);simp;omega
theorem zeF {α:Type} (p:α→Bool) (l:List α) (k:Nat) (h:k<l.length):(l.take (k+1)).all p=((l.take k).all p&&p l[k]):=by
 rw[List.take_succ_eq_append_getElem h,List.all_append];simp
theorem zdX {α:Type} (p:α→Bool) (l:List α) (k:Nat) (h:(l.take k).all p=false):l.all p=false:=by
 rw[←List.take_append_drop k l,List.all_append,h,Bool.false_and]
theorem zeg {α:Type} (l:List α) (d:α) (h:0<l.length):l.getLastD d=l[l.length - 1]:=by
 rw[List.getLastD_eq_getLast?,List.getLast?_eq_getElem?,List.getElem?_eq_getElem (by omega)];rfl
theorem zjS (s:ByteArray) (w:World) (hs:s.size≤1000000) :
  Calls Tryz.prog 76 #[.string s] w fun e w'=>e=.returned (.bool (zcz s.data.toList))∧Qb w w':=by
 have hpos:=zbx 46 s.data.toList
 have hlen:=zc9 46 s.data.toList
 have hparts:∀k (h:k<(zah 46 s.data.toList).length),(S (zah 46 s.data.toList)[k]).size≤maxLen:=fun k h=>by
  have:=zc2 46 s.data.toList _ (List.getElem_mem h)
  unfold maxLen;rw[zac];rw[zaa] at this;omega
 have HB:Hid (zcz s.data.toList=((zah 46 s.data.toList).all zbv&&!zcw ((zah 46 s.data.toList).getLastD []))):=Lib.hid rfl
 rw[zaa] at hlen
 have HP:=Lib.hid hparts
 clear hparts
 go_enter Tryz.func76,Tryz.ntmps76
 go_wp2_with fail
 refine(zeJ s 46 _ hs).mono ?_
 rintro e w1 ⟨v,rfl,hrow,hq1⟩
 generalize zah 46 s.data.toList=ls at *
 obtain⟨g,cap,rfl,hg0,hg1,hcap⟩:=hrow.form hpos
 have HR:=Lib.hid hrow
 clear hrow
 go_wp2_with fail
 go_loop [5,10] (fun _ i=>∃k:Nat,k≤ls.length∧i=.int .i64 k∧Hid ((ls.take k).all zbv=true)) (fun _ i=>ls.length - (intOf i).toNat)
 case atStart=>exact⟨0,Nat.zero_le _,rfl,Lib.hid rfl⟩
 case round=>
  obtain⟨k,hk,rfl,HT⟩:=hrel
  by_cases hlt:k<ls.length
  ·have hcell:=HR.out.cell k hlt
   have hsz:=HP.out k hlt
   have HS:=Lib.hid (zeF zbv ls k hlt)
   have HF:=zdX zbv ls (k+1)
   generalize ls[k]=x at *
   rcases hx:zbv x with _|_
   ·have HB2:Hid (zcz s.data.toList=false):=Lib.hid (by rw[HB.out,HF (by rw[HS.out,hx,Bool.and_false])];rfl)
    have H1:=Lib.hid hx
    clear hx HF
    go_wp2_with fail
    refine(zid _ _ hsz).mono ?_
    rintro e w2 ⟨rfl,rfl⟩
    rw[zab,H1.out]
    go_wp2_with fail
    go_ret
    exact⟨zak (by rw[HB2.out]),hq1⟩
   ·have HT2:Hid ((ls.take (k+1)).all zbv=true):=Lib.hid (by rw[HS.out,hx,HT.out];rfl)
    have H1:=Lib.hid hx
    clear hx HF
    go_wp2_with fail
    refine(zid _ _ hsz).mono ?_
    rintro e w2 ⟨rfl,rfl⟩
    rw[zab,H1.out]
    go_wp2_with fail
    go_round
    case rel=>exact⟨k+1,by omega,by go_num,HT2⟩
    case measure=>simp[intOf];omega
  ·obtain rfl:k=ls.length:=by omega
   have hidx:ls.length - 1<ls.length:=by omega
   have hcell:=HR.out.cell (ls.length - 1) hidx
   have hsz:=HP.out _ hidx
   have HD:Hid (zcz s.data.toList=!zcw ls[ls.length - 1]):=Lib.hid (by
    have:=HT.out
    rw[List.take_length] at this
    rw[HB.out,this,Bool.true_and,zeg _ _ hpos])
   generalize ls[ls.length - 1]=x at *
   clear hlt
   go_wp2_with fail
   refine(zlf _ _ hsz).mono ?_
   rintro e w2 ⟨rfl,rfl⟩
   go_wp2_with fail
   go_ret
   exact⟨zak (by rw[HD.out]),hq1⟩
theorem zep (s:ByteArray) (w:World) (hs:s.size≤1000000) :
  Calls Tryz.prog 56 #[.string s] w fun e w'=>e=.returned (.bool (zcs s.data.toList))∧Qb w w':=by
 have hpos:=zbx 46 s.data.toList
 have hlen:=zc9 46 s.data.toList
 have hparts:∀k (h:k<(zah 46 s.data.toList).length),(S (zah 46 s.data.toList)[k]).size≤maxLen:=fun k h=>by
  have:=zc2 46 s.data.toList _ (List.getElem_mem h)
  unfold maxLen;rw[zac];rw[zaa] at this;omega
 have HB:Hid (zcs s.data.toList=(decide ((zah 46 s.data.toList).length=4)&&(zah 46 s.data.toList).all zcV)):=Lib.hid rfl
 rw[zaa] at hlen
 have HP:=Lib.hid hparts
 clear hparts
 go_enter Tryz.func56,Tryz.ntmps56
 go_wp2_with fail
 refine(zeJ s 46 _ hs).mono ?_
 rintro e w1 ⟨v,rfl,hrow,hq1⟩
 generalize zah 46 s.data.toList=ls at *
 obtain⟨g,cap,rfl,hg0,hg1,hcap⟩:=hrow.form hpos
 have HR:=Lib.hid hrow
 clear hrow
 go_wp2_with fail
 go_loop [5,6,7,12] (fun _ _ _ i=>∃k:Nat,k≤ls.length∧i=.int .i64 k∧Hid ((ls.take k).all zcV=true)) (fun _ _ _ i=>ls.length - (intOf i).toNat)
 case atStart=>exact⟨0,Nat.zero_le _,rfl,Lib.hid rfl⟩
 case round=>
  obtain⟨k,hk,rfl,HT⟩:=hrel
  by_cases hlt:k<ls.length
  ·have hcell:=HR.out.cell k hlt
   have hsz:=HP.out k hlt
   have HS:=Lib.hid (zeF zcV ls k hlt)
   have HF:=zdX zcV ls (k+1)
   generalize ls[k]=x at *
   obtain⟨er,v,hst⟩:∃er v,zaF (255:Int).toNat x=(er,v):=⟨_,_,rfl⟩
   have HS1:=Lib.hid hst
   have hok:zcV x=decide (er=0):=by rw[ziC,hst]
   clear hst
   by_cases he:er=0
   ·subst he
    have HT2:Hid ((ls.take (k+1)).all zcV=true):=Lib.hid (by rw[HS.out,hok,HT.out];rfl)
    clear hok HF
    go_wp2_with fail
    refine(zdj _ _ _ hsz (by decide) (by decide)).mono ?_
    rintro e w2 ⟨rfl,rfl⟩
    rw[zab,HS1.out]
    unfold zhO
    go_wp2_with fail
    go_round
    case rel=>exact⟨k+1,by omega,by go_num,HT2⟩
    case measure=>simp[intOf];omega
   ·have he1:(er != 0)=true:=bne_iff_ne.2 he
    have HB2:Hid (zcs s.data.toList=false):=Lib.hid (by rw[HB.out,HF (by rw[HS.out,hok,decide_eq_false he,Bool.and_false]),Bool.and_false])
    clear hok HF he
    go_wp2_with fail
    refine(zdj _ _ _ hsz (by decide) (by decide)).mono ?_
    rintro e w2 ⟨rfl,rfl⟩
    rw[zab,HS1.out]
    unfold zhO
    go_wp2_with fail
    go_ret
    exact⟨zak (by rw[HB2.out]),hq1⟩
  ·obtain rfl:k=ls.length:=by omega
   have HD:Hid (zcs s.data.toList=decide ((ls.length:Int)=4)):=Lib.hid (by
    have:=HT.out
    rw[List.take_length] at this
    rw[HB.out,this,Bool.and_true];exact decide_eq_decide.2 (by omega))
   clear hlt
   go_wp2_with fail
   go_ret
   exact⟨zak (by rw[HD.out];try rfl),hq1⟩
theorem zdQ (s:ByteArray) (w:World) (hs:s.size≤1000000) :
  Calls Tryz.prog 52 #[.string s] w fun e w'=>e=.returned (zcZ (zaL s.data.toList))∧Qb w w':=by
 by_cases h0:s.size=0
 ·obtain rfl:s=S []:=zc8 h0
  clear h0 hs
  go_enter Tryz.func52,Tryz.ntmps52
  go_wp2_with fail
  go_ret2
  exact⟨rfl,Qb.refl _⟩
 have hpos:0<s.size:=by omega
 have he1:=zeb hpos
 have hne:=Lib.hid (zqd hpos)
 clear h0
 by_cases h253:253<s.size
 ·have HE:Hid (zaL s.data.toList=(5,[])):=Lib.hid (by unfold zaL;rw[if_neg hne.out,if_pos (by rw[zaa];exact h253)])
  go_enter Tryz.func52,Tryz.ntmps52
  go_wp2_with fail
  go_ret2
  exact⟨by rw[HE.out];rfl,Qb.refl _⟩
 have h253':s.size≤253:=by omega
 have hml:s.size≤maxLen:=by unfold maxLen;omega
 have HE:Hid (zaL s.data.toList=if (zcz s.data.toList||zcs s.data.toList)=true then (0,zbm s.data.toList) else (50,[])):=Lib.hid (by unfold zaL;rw[if_neg hne.out,if_neg (by rw[zaa];omega)])
 clear h253
 rcases h1:zcs s.data.toList with _|_
 ·rcases h2:zcz s.data.toList with _|_
  ·have HF:Hid (zaL s.data.toList=(50,[])):=Lib.hid (by rw[HE.out,h1,h2];rfl)
   have H1:=Lib.hid h1
   have H2:=Lib.hid h2
   clear h1 h2
   go_enter Tryz.func52,Tryz.ntmps52
   go_wp2_with fail
   refine(zep s _ (by omega)).mono ?_
   rintro e w1 ⟨rfl,hq1⟩
   rw[H1.out]
   go_wp2_with fail
   refine(zjS s _ (by omega)).mono ?_
   rintro e w2 ⟨rfl,hq2⟩
   rw[H2.out]
   go_wp2_with fail
   go_ret2
   exact⟨by rw[HF.out];rfl,hq1.trans hq2⟩
  ·have HF:Hid (zaL s.data.toList=(0,zbm s.data.toList)):=Lib.hid (by rw[HE.out,h1,h2];rfl)
   have H1:=Lib.hid h1
   have H2:=Lib.hid h2
   clear h1 h2
   go_enter Tryz.func52,Tryz.ntmps52
   go_wp2_with fail
   refine(zep s _ (by omega)).mono ?_
   rintro e w1 ⟨rfl,hq1⟩
   rw[H1.out]
   go_wp2_with fail
   refine(zjS s _ (by omega)).mono ?_
   rintro e w2 ⟨rfl,hq2⟩
   rw[H2.out]
   go_wp2_with fail
   refine(zdP s _ (by omega)).mono ?_
   rintro e w3 ⟨rfl,hq3⟩
   go_wp2_with fail
   go_ret2
   exact⟨by rw[HF.out];rfl,(hq1.trans hq2).trans hq3⟩
 ·have HF:Hid (zaL s.data.toList=(0,zbm s.data.toList)):=Lib.hid (by rw[HE.out,h1];simp)
  have H1:=Lib.hid h1
  clear h1
  go_enter Tryz.func52,Tryz.ntmps52
  go_wp2_with fail
  refine(zep s _ (by omega)).mono ?_
  rintro e w1 ⟨rfl,hq1⟩
  rw[H1.out]
  go_wp2_with fail
  refine(zdP s _ (by omega)).mono ?_
  rintro e w3 ⟨rfl,hq3⟩
  go_wp2_with fail
  go_ret2
  exact⟨by rw[HF.out];rfl,hq1.trans hq3⟩
end Go.Proofs.YtnnipcgblooemaaGreatDoor
namespace Go.Proofs.YtnnipcgblooemaaGreatDoor
open Go.RowKit
def hpE (l:List UInt8):Int×List UInt8×Nat :=
 if (zaL (zar 58 l).1).1≠0 then ((zaL (zar 58 l).1).1,[],0)
 else if (zar 58 l).2.2=false then (0,(zaL (zar 58 l).1).2,0)
 else if (zc1 (zar 58 l).2.1).1≠0 then ((zc1 (zar 58 l).2.1).1,[],0)
 else (0,(zaL (zar 58 l).1).2,if (zc1 (zar 58 l).2.1).2=443 then 0 else (zc1 (zar 58 l).2.1).2)
def hpV (r:Int×List UInt8×Nat):Value:=.tuple #[.agg #[.string (S r.2.1),.int .i64 r.2.2],.int .i64 r.1]
theorem zrN (s:ByteArray) (w:World) (hs:s.size≤maxLen) :
  Calls Tryz.prog 132 #[.string s] w fun e w'=>e=.returned (hpV (hpE s.data.toList))∧Qb w w':=by
 obtain⟨p,q,b,hcut⟩:∃p q b,zar 58 s.data.toList=(p,q,b):=⟨_,_,_,rfl⟩
 obtain⟨he,h,hh⟩:∃he h,zaL p=(he,h):=⟨_,_,rfl⟩
 obtain⟨pe,pn,hp⟩:∃pe pn,zc1 q=(pe,pn):=⟨_,_,rfl⟩
 have HC:=Lib.hid hcut
 have HH:=Lib.hid hh
 have HP:=Lib.hid hp
 have hsp:(S p).size≤maxLen:=by
  have:=(za5 58 s.data.toList).1
  rw[hcut,zaa] at this;rw[zac];simp at this;omega
 have hsq:(S q).size≤maxLen:=by
  have:=(za5 58 s.data.toList).2
  rw[hcut,zaa] at this;rw[zac];simp at this;omega
 have HE:Hid (hpE s.data.toList=if he≠0 then (he,[],0) else if b=false then (0,h,0) else if pe≠0 then (pe,[],0) else (0,h,if pn=443 then 0 else pn)):=Lib.hid (by
  unfold hpE;rw[hcut];simp only;rw[hh,hp])
 clear hcut hh hp
 by_cases hee:he=0
 ·subst hee
  rcases b with _|_
  ·have HF:Hid (hpE s.data.toList=(0,h,0)):=Lib.hid (by rw[HE.out,if_neg (by simp),if_pos rfl])
   go_enter Tryz.func132,Tryz.ntmps132
   go_wp2_with fail
   refine(zbi s 58 _ hs).mono ?_
   rintro e w1 ⟨rfl,hq1⟩
   rw[HC.out]
   unfold zeY
   go_wp2_with fail
   refine(zcN _ _ hsp).mono ?_
   rintro e w2 ⟨rfl,hq2⟩
   rw[zab,HH.out]
   unfold zcZ
   have hk:=(Obk.new w _ _).qb (hq1.trans hq2)
   have hc0:=hk.cell 0
   have hc1:=hk.cell 1
   have hf0:=hk.frozen 0
   have hf1:=hk.frozen 1
   simp at hc0 hc1
   go_wp2_with fail
   exact bodyPost_ret (v:=hpV (0,h,0)) (by simp[results,Tryz.results132,go_sem,hc0,hc1,hf0,hf1,hpV]) rfl ⟨by rw[HF.out],((((Qb.refl w).alloc _).trans (hq1.trans hq2)).set (Nat.le_refl _) _).set (Nat.le_refl _) _⟩
  ·by_cases hpe:pe=0
   ·subst hpe
    by_cases h443:pn=443
    ·subst h443
     have HF:Hid (hpE s.data.toList=(0,h,0)):=Lib.hid (by rw[HE.out,if_neg (by simp),if_neg (by simp),if_neg (by simp),if_pos rfl])
     go_enter Tryz.func132,Tryz.ntmps132
     go_wp2_with fail
     refine(zbi s 58 _ hs).mono ?_
     rintro e w1 ⟨rfl,hq1⟩
     rw[HC.out]
     unfold zeY
     go_wp2_with fail
     refine(zcN _ _ hsp).mono ?_
     rintro e w2 ⟨rfl,hq2⟩
     rw[zab,HH.out]
     unfold zcZ
     go_wp2_with fail
     refine(zjz _ _ hsq).mono ?_
     rintro e w3 ⟨rfl,rfl⟩
     rw[zab,HP.out]
     unfold zpK
     have hk:=(Obk.new w _ _).qb (hq1.trans hq2)
     have hc0:=hk.cell 0
     have hc1:=hk.cell 1
     have hf0:=hk.frozen 0
     have hf1:=hk.frozen 1
     simp at hc0 hc1
     go_wp2_with fail
     exact bodyPost_ret (v:=hpV (0,h,0)) (by simp[results,Tryz.results132,go_sem,hc0,hc1,hf0,hf1,hpV]) rfl ⟨by rw[HF.out],((((Qb.refl w).alloc _).trans (hq1.trans hq2)).set (Nat.le_refl _) _).set (Nat.le_refl _) _⟩
    ·have HF:Hid (hpE s.data.toList=(0,h,pn)):=Lib.hid (by rw[HE.out,if_neg (by simp),if_neg (by simp),if_neg (by simp),if_neg h443])
     have hb4:((pn:Int)==443)=false:=by rw[beq_eq_false_iff_ne];omega
     go_enter Tryz.func132,Tryz.ntmps132
     go_wp2_with fail
     refine(zbi s 58 _ hs).mono ?_
     rintro e w1 ⟨rfl,hq1⟩
     rw[HC.out]
     unfold zeY
     go_wp2_with fail
     refine(zcN _ _ hsp).mono ?_
     rintro e w2 ⟨rfl,hq2⟩
     rw[zab,HH.out]
     unfold zcZ
     go_wp2_with fail
     refine(zjz _ _ hsq).mono ?_
     rintro e w3 ⟨rfl,rfl⟩
     rw[zab,HP.out]
     unfold zpK
     have hk:=(Obk.new w _ _).qb (hq1.trans hq2)
     have hc0:=hk.cell 0
     have hc1:=hk.cell 1
     have hf0:=hk.frozen 0
     have hf1:=hk.frozen 1
     simp at hc0 hc1
     go_wp2_with fail
     exact bodyPost_ret (v:=hpV (0,h,pn)) (by simp[results,Tryz.results132,go_sem,hc0,hc1,hf0,hf1,hpV]) rfl ⟨by rw[HF.out],((((Qb.refl w).alloc _).trans (hq1.trans hq2)).set (Nat.le_refl _) _).set (Nat.le_refl _) _⟩
   ·have HF:Hid (hpE s.data.toList=(pe,[],0)):=Lib.hid (by rw[HE.out,if_neg (by simp),if_neg (by simp),if_pos hpe])
    have hb:=bne_iff_ne.2 hpe
    go_enter Tryz.func132,Tryz.ntmps132
    go_wp2_with fail
    refine(zbi s 58 _ hs).mono ?_
    rintro e w1 ⟨rfl,hq1⟩
    rw[HC.out]
    unfold zeY
    go_wp2_with fail
    refine(zcN _ _ hsp).mono ?_
    rintro e w2 ⟨rfl,hq2⟩
    rw[zab,HH.out]
    unfold zcZ
    go_wp2_with fail
    refine(zjz _ _ hsq).mono ?_
    rintro e w3 ⟨rfl,rfl⟩
    rw[zab,HP.out]
    unfold zpK
    have hk:=(Obk.new w _ _).qb (hq1.trans hq2)
    have hc0:=hk.cell 0
    have hc1:=hk.cell 1
    have hf0:=hk.frozen 0
    have hf1:=hk.frozen 1
    simp at hc0 hc1
    go_wp2_with fail
    exact bodyPost_ret (v:=hpV (pe,[],0)) (by simp[results,Tryz.results132,go_sem,hc0,hc1,hf0,hf1,hpV]) rfl ⟨by rw[HF.out],((((Qb.refl w).alloc _).trans (hq1.trans hq2)).set (Nat.le_refl _) _).set (Nat.le_refl _) _⟩
 ·have HF:Hid (hpE s.data.toList=(he,[],0)):=Lib.hid (by rw[HE.out,if_pos hee])
  have hb:(he != 0)=true:=bne_iff_ne.2 hee
  go_enter Tryz.func132,Tryz.ntmps132
  go_wp2_with fail
  refine(zbi s 58 _ hs).mono ?_
  rintro e w1 ⟨rfl,hq1⟩
  rw[HC.out]
  unfold zeY
  go_wp2_with fail
  refine(zcN _ _ hsp).mono ?_
  rintro e w2 ⟨rfl,hq2⟩
  rw[zab,HH.out]
  unfold zcZ
  have hk:=(Obk.new w _ _).qb (hq1.trans hq2)
  have hc0:=hk.cell 0
  have hc1:=hk.cell 1
  have hf0:=hk.frozen 0
  have hf1:=hk.frozen 1
  simp at hc0 hc1
  go_wp2_with fail
  exact bodyPost_ret (v:=hpV (he,[],0)) (by simp[results,Tryz.results132,go_sem,hc0,hc1,hf0,hf1,hpV]) rfl ⟨by rw[HF.out],((((Qb.refl w).alloc _).trans (hq1.trans hq2)).set (Nat.le_refl _) _).set (Nat.le_refl _) _⟩
end Go.Proofs.YtnnipcgblooemaaGreatDoor
namespace Go.Proofs.YtnnipcgblooemaaGreatDoor
theorem low256:∀n:Fin 256,zdc (zdc (UInt8.ofNat n.val))=zdc (UInt8.ofNat n.val)∧lbB (zdc (UInt8.ofNat n.val))=lbB (UInt8.ofNat n.val)∧hyB (zdc (UInt8.ofNat n.val))=hyB (UInt8.ofNat n.val)∧zal (zdc (UInt8.ofNat n.val))=zal (UInt8.ofNat n.val)∧(zdc (UInt8.ofNat n.val)=46↔UInt8.ofNat n.val=46)∧(zal (UInt8.ofNat n.val)=true→zdc (UInt8.ofNat n.val)=UInt8.ofNat n.val)∧(UInt8.ofNat n.val=46→zdc (UInt8.ofNat n.val)=UInt8.ofNat n.val):=by decide +kernel
theorem zcr (c:UInt8):zdc (zdc c)=zdc c∧lbB (zdc c)=lbB c∧hyB (zdc c)=hyB c∧zal (zdc c)=zal c∧(zdc c=46↔c=46)∧(zal c=true→zdc c=c)∧(c=46→zdc c=c):=by
 have:=low256 ⟨c.toNat,c.toNat_lt⟩
 simp only[UInt8.ofNat_toNat] at this
 exact this
theorem zqb (l:List UInt8):zbm (zbm l)=zbm l:=by
 unfold zbm
 rw[List.map_map]
 exact List.map_congr_left fun c _=>(zcr c).1
theorem zfe (l:List UInt8):(zbm l).length=l.length:=by simp[zbm]
theorem zh6:∀l,zah 46 (zbm l)=(zah 46 l).map zbm
 | []=>rfl
 | x::t=>by
  have ih:=zh6 t
  obtain⟨p,ps,e⟩:=zaG 46 t
  rw[e] at ih
  show zah 46 (zdc x::zbm t)=_
  rw[zaE,zaE,ih,e]
  by_cases h:x=46
  ·rw[if_pos ((zcr x).2.2.2.2.1.2 h),if_pos h];rfl
  ·rw[if_neg (fun h2=>h ((zcr x).2.2.2.2.1.1 h2)),if_neg h];rfl
theorem zrI (p:UInt8→Bool) (hp:∀c,p (zdc c)=p c) (l:List UInt8):(zbm l).all p=l.all p:=by
 unfold zbm
 rw[List.all_map]
 congr 1;funext c;exact hp c
theorem zoh (l:List UInt8):zbv (zbm l)=zbv l:=by
 unfold zbv
 rw[zrI lbB (fun c=>(zcr c).2.1),zfe]
 have e1:(zbm l).isEmpty=l.isEmpty:=by cases l<;>rfl
 have e2:(zbm l).head?.map hyB=l.head?.map hyB:=by
  cases l with
  | nil=>rfl
  | cons c t=>simp[zbm,(zcr c).2.2.1]
 have e3:(zbm l).getLast?.map hyB=l.getLast?.map hyB:=by
  unfold zbm
  rw[List.getLast?_map]
  cases l.getLast? with
  | none=>rfl
  | some c=>simp[(zcr c).2.2.1]
 rw[e1,e2,e3]
theorem zlG (l:List UInt8):zcw (zbm l)=zcw l:=by
 unfold zcw
 rw[zrI zal (fun c=>(zcr c).2.2.2.1)]
 have e1:(zbm l).isEmpty=l.isEmpty:=by cases l<;>rfl
 rw[e1]
theorem zp6 (l:List UInt8):zcz (zbm l)=zcz l:=by
 unfold zcz
 rw[zh6,List.all_map]
 have e1:((zah 46 l).map zbm).getLastD []=zbm ((zah 46 l).getLastD []):=by
  rw[List.getLastD_eq_getLast?,List.getLastD_eq_getLast?,List.getLast?_map]
  cases (zah 46 l).getLast?<;>rfl
 rw[e1,zlG]
 congr 1
 congr 1
 funext x
 exact zoh x
theorem zoq {l:List UInt8} (h:zcV l=true):zbm l=l:=by
 unfold zcV at h
 have h1:=of_decide_eq_true h
 unfold zaF at h1
 split at h1
 ·rename_i h2
  have h3:=(zeU h2).2
  unfold zbm
  rw[List.all_eq_true] at h3
  have:l.map zdc=l.map id:=List.map_congr_left fun c hc=>(zcr c).2.2.2.2.2.1 (h3 c hc)
  rw[this,List.map_id]
 ·rename_i h2;exact absurd h1 h2
theorem zer:∀l:List UInt8,(∀p∈zah 46 l,zbm p=p)→zbm l=l
 | [],_=>rfl
 | x::t,h=>by
  obtain⟨p,ps,e⟩:=zaG 46 t
  rw[zaE,e] at h
  by_cases hx:x=46
  ·rw[if_pos hx] at h
   have ih:=zer t (by rw[e];intro q hq;exact h q (List.mem_cons_of_mem _ hq))
   show zdc x::zbm t=_
   rw[ih,(zcr x).2.2.2.2.2.2 hx]
  ·rw[if_neg hx] at h
   have h1:=h (x::p) (List.mem_cons_self ..)
   have h2:zdc x=x∧zbm p=p:=by
    have:zdc x::zbm p=x::p:=h1
    injection this with a b;exact⟨a,b⟩
   have ih:=zer t (by
    rw[e];intro q hq
    rcases List.mem_cons.1 hq with rfl|hq
    ·exact h2.2
    ·exact h q (List.mem_cons_of_mem _ hq))
   show zdc x::zbm t=_
   rw[ih,h2.1]
theorem ipv4_low {l:List UInt8} (h:zcs l=true):zbm l=l:=by
 refine zer l fun p hp=>?_
 unfold zcs zk2 at h
 simp only[Bool.and_eq_true,List.all_eq_true] at h
 exact zoq (h.2 p hp)
theorem zga {q h:List UInt8} (hh:zaL q=(0,h)):zaL h=(0,h)∧h.length=q.length∧h.length≤253∧h=zbm q:=by
 unfold zaL at hh
 split at hh
 ·cases hh
 ·rename_i h0
  split at hh
  ·cases hh
  ·rename_i h1
   split at hh
   ·rename_i h2
    injection hh with _ hh;subst hh
    have hl:=zfe q
    refine⟨?_,hl,by omega,rfl⟩
    unfold zaL
    rw[if_neg (by intro e;rw[e] at hl;exact h0 (List.eq_nil_of_length_eq_zero (by simpa using hl.symm))),if_neg (by omega),zqb]
    rw[if_pos]
    rw[zp6]
    rw[Bool.or_eq_true] at h2 ⊢
    rcases h2 with h2|h2
    ·exact .inl h2
    ·exact .inr (by rw[ipv4_low h2];exact h2)
   ·cases hh
end Go.Proofs.YtnnipcgblooemaaGreatDoor
namespace Go.Proofs.YtnnipcgblooemaaGreatDoor
open Go.RowKit
def hvN (c:UInt8):Nat:=if c.toNat≤57 then c.toNat - 48 else if c.toNat≤70 then c.toNat - 55 else c.toNat - 87
def hv (c:UInt8):UInt8:=UInt8.ofNat (hvN c)
theorem zhv {c:UInt8} (h:zbn c=true):48≤c.toNat∧c.toNat≤57∨97≤c.toNat∧c.toNat≤102∨65≤c.toNat∧c.toNat≤70:=of_decide_eq_true h
theorem zcQ {c:UInt8} (h:zbn c=true):(hv c).toNat=hvN c∧hvN c<16:=by
 have:=zhv h
 have h2:hvN c<16:=by unfold hvN;(repeat' split)<;>omega
 exact⟨by unfold hv;rw[UInt8.toNat_ofNat'];omega,h2⟩
theorem and_223:∀n:Fin 256,bits .and .u8 ((n.val:Nat):Int) 223=((n.val &&& 223:Nat):Int):=by decide +kernel
theorem and_15:∀n:Fin 256,bits .and .u8 ((n.val:Nat):Int) 15=((n.val % 16:Nat):Int):=by decide +kernel
theorem hex_223:∀n:Fin 256,(97≤n.val∧n.val≤102∨65≤n.val∧n.val≤70)→(n.val &&& 223)=(if n.val≤70 then n.val else n.val - 32):=by decide +kernel
theorem zii (c:UInt8) (h:zbn c=true) (w:World) :
  Calls Tryz.prog 172 #[.int .u8 c.toNat] w fun e w'=>e=.returned (.int .u8 (hv c).toNat)∧w=w':=by
 have H:=Lib.hid h
 clear h
 go_enter Tryz.func172,Tryz.ntmps172
 go_wp2_with (go_at_call 136;refine(zaW _ _).mono ?_;rintro e w' ⟨rfl,rfl⟩)
 ·have hd:zal c=true:=by assumption
  go_ret
  refine⟨zdh ?_,rfl⟩
  have h1:=zcQ H.out
  have h2:48≤c.toNat∧c.toNat≤57:=of_decide_eq_true hd
  rw[h1.1];unfold hvN;rw[if_pos h2.2];omega
 ·have hd:zal c=false:=by assumption
  go_ret
  refine⟨zdh ?_,rfl⟩
  have h1:=zcQ H.out
  have h2:¬(48≤c.toNat∧c.toNat≤57):=of_decide_eq_false hd
  have h3:=zhv H.out
  rw[h1.1,and_223 ⟨c.toNat,c.toNat_lt⟩,hex_223 ⟨c.toNat,c.toNat_lt⟩ (by show _∨_;simp only;omega)]
  unfold hvN
  simp only
  split<;>split<;>(try split)<;>omega
theorem zn3 (c:UInt8) (h:zbn c=true) (w:World) :
  Calls Tryz.prog 108 #[.int .u8 c.toNat] w fun e w'=>e=.returned (.int .u8 (hv c).toNat)∧w=w':=by
 have h1:=zcQ h
 have h3:=zhv h
 have H:=Lib.hid (And.intro h1 h3)
 clear h h1 h3
 go_enter Tryz.func108,Tryz.ntmps108
 go_wp2
 all_goals go_ret
 all_goals refine⟨zdh ?_,rfl⟩
 all_goals have h1:=H.out.1
 all_goals have h3:=H.out.2
 all_goals rw[h1.1]
 all_goals unfold hvN
 all_goals (repeat' split)<;>omega
def zdp (n:Nat):UInt8:=[48,49,50,51,52,53,54,55,56,57,65,66,67,68,69,70].getD n 0
def zc5 (c:UInt8):List UInt8:=[37,zdp (c.toNat / 16),zdp (c.toNat % 16)]
theorem zgM (i:Nat) (h:i<ByteArray.size { data:=#[48,49,50,51,52,53,54,55,56,57,65,66,67,68,69,70] }) :
  ({ data:=#[48,49,50,51,52,53,54,55,56,57,65,66,67,68,69,70] }:ByteArray)[i]=zdp i:=by
 have h':i<[(48:UInt8),49,50,51,52,53,54,55,56,57,65,66,67,68,69,70].length:=h
 unfold zdp
 rw[List.getD_eq_getElem?_getD,List.getElem?_eq_getElem h']
 rfl
theorem news3 (W:World) (a b c:Value):∀j u,[a,b,c][j]? = some u→(W.alloc (.cells #[a,b,c] 5)).cell? ((⟨W.heap.size,0,none⟩:Addr).add j)=some u:=by
 intro j u hj
 rw[zaO,World.cell?_alloc_at _ _ _ _ rfl]
 simpa using hj
theorem zi6 (W:World) (a:Value):∀j u,[a][j]? = some u→(W.alloc (.cells #[a] 5)).cell? ((⟨W.heap.size,0,none⟩:Addr).add j)=some u:=by
 intro j u hj
 rw[zaO,World.cell?_alloc_at _ _ _ _ rfl]
 simpa using hj
theorem zol (c:UInt8) (i j:Nat) (hi:i=c.toNat / 16) (hj:j=c.toNat % 16) (h1:i<ByteArray.size { data:=#[48,49,50,51,52,53,54,55,56,57,65,66,67,68,69,70] }) (h2:j<ByteArray.size { data:=#[48,49,50,51,52,53,54,55,56,57,65,66,67,68,69,70] }) :
  bv (zc5 c)=[.int .u8 37,.int .u8 (({ data:=#[48,49,50,51,52,53,54,55,56,57,65,66,67,68,69,70] }:ByteArray)[i]).toNat,.int .u8 (({ data:=#[48,49,50,51,52,53,54,55,56,57,65,66,67,68,69,70] }:ByteArray)[j]).toNat]:=by
 rw[zgM,zgM,hi,hj];rfl
theorem zeh (v:Value) (l:List UInt8) (c:UInt8) (B:Nat) (w:World) (h:zci w B v l) (hl:l.length≤1000000000) (hB:B≤w.heap.size) :
  Calls Tryz.prog 44 #[v,.int .u8 c.toNat] w fun e w'=>∃v',e=.returned v'∧zci w' B v' (l++zc5 c)∧Below B w w':=by
 have hc:=c.toNat_lt
 have a1:(0:Int)≤(c.toNat:Int) / 16:=by omega
 have a2:(c.toNat:Int) / 16<16:=by omega
 have b1:(0:Int)≤(c.toNat:Int) % 16:=by omega
 have b2:(c.toNat:Int) % 16<16:=by omega
 have hand:=and_15 ⟨c.toNat,c.toNat_lt⟩
 simp only at hand
 have hcells:=Lib.hid (zol c ((c.toNat:Int) / 16).toNat ((c.toNat:Int) % 16).toNat (by omega) (by omega) (by show _<16;omega) (by show _<16;omega))
 go_enter Tryz.func44,Tryz.ntmps44
 go_wp2_with fail
 go_region_law (first|(refine zgX rfl (.tmp 5) (.tmp 12) rfl B v l (zc5 c) rfl (zci.drew (h.alloc _)) _ _ _ rfl rfl (by rw[hcells.out];exact news3 _ _ _ _) (by simp[zc5];omega) (by simp;omega) ?_;intro v1 w1 hr1 hb1)|fail)
 all_goals have hb2:Below B w w1:=(((Below.refl B w).alloc hB _).drew).trans hb1
 all_goals (try go_wp2_with fail)
 all_goals go_ret
 all_goals exact⟨_,rfl,hr1,hb2⟩
theorem crow3 (W:World) (x y z:UInt8):Crow ((W.alloc (.cells #[.int .u8 x.toNat,.int .u8 y.toNat,.int .u8 z.toNat] 5)).drew) W.heap.size [x,y,z]:=by
 intro j hj
 refine⟨?_,World.frozen?_alloc_at _ _ _ _ rfl⟩
 show (W.alloc _).cell? _=_
 rw[World.cell?_alloc_at _ _ _ _ rfl]
 match j,hj with
 | 0,_=>rfl
 | 1,_=>rfl
 | 2,_=>rfl
theorem zd4 (c:UInt8) (w:World) :
  Calls Tryz.prog 75 #[.int .u8 c.toNat] w fun e w'=>e=.returned (.string (S (zc5 c)))∧Qb w w':=by
 have hc:=c.toNat_lt
 have e1:=zgM (c.toNat / 16) (by show _<16;omega)
 have e2:=zgM (c.toNat % 16) (by show _<16;omega)
 have hst:(convert 29 9 (.slice (some ⟨w.heap.size,0,none⟩) 3 3)).run Tryz.prog ((w.alloc (.cells #[.int .u8 37,.int .u8 (zdp (c.toNat / 16)).toNat,.int .u8 (zdp (c.toNat % 16)).toNat] 5)).drew)=.ok (.string ⟨[37,zdp (c.toNat / 16),zdp (c.toNat % 16)].toArray⟩) _:=(crow3 w 37 (zdp (c.toNat / 16)) (zdp (c.toNat % 16))).str 3 3 rfl
 rw[←e1,←e2] at hst
 have H:=Lib.hid (And.intro e1 e2)
 clear e1 e2
 have a1:(0:Int)≤(c.toNat:Int) / 16:=by omega
 have a2:(c.toNat:Int) / 16<16:=by omega
 have b1:(0:Int)≤(c.toNat:Int) % 16:=by omega
 have b2:(c.toNat:Int) % 16<16:=by omega
 go_enter Tryz.func75,Tryz.ntmps75
 go_wp2_with fail
 go_region
 all_goals (try go_wp2_with fail)
 all_goals go_ret
 all_goals refine⟨zeo ?_,((Qb.refl w).alloc _).drew⟩
 all_goals rw[H.out.1,H.out.2]
 all_goals rfl
def zaT (c:UInt8) (also:List UInt8):Bool:=zav c||(c.toNat != 37&&zbe c also)
theorem zcI (c:UInt8) (s:ByteArray) (w:World) :
  Calls Tryz.prog 43 #[.int .u8 c.toNat,.string s] w fun e w'=>e=.returned (.bool (zaT c s.data.toList))∧w=w':=by
 go_enter Tryz.func43,Tryz.ntmps43
 go_wp2_with (first|(go_at_call 70;refine(zch _ _).mono ?_;rintro e w' ⟨rfl,rfl⟩)|(go_at_call 71;refine(Tryz.strings_IndexByte _ _ _).mono ?_;rintro e w' ⟨rfl,rfl⟩))
 ·have h1:zav c=true:=by assumption
  go_ret
  exact⟨zak (by unfold zaT;rw[h1];rfl),rfl⟩
 ·have h1:¬zav c=true:=by assumption
  have h2:(c.toNat:Int)=37:=by assumption
  go_ret
  refine⟨zak ?_,rfl⟩
  unfold zaT
  have h3:c.toNat=37:=by omega
  rw[Bool.eq_false_iff.2 h1,h3];rfl
 ·have h1:¬zav c=true:=by assumption
  have h2:¬(c.toNat:Int)=37:=by assumption
  go_ret
  refine⟨zak ?_,rfl⟩
  unfold zaT zbe
  have h3:¬c.toNat=37:=by omega
  rw[Bool.eq_false_iff.2 h1,Lib.contains_iff_indexByte,bne_iff_ne.2 h3,bne_iff_ne.2 h2];rfl
def zbt:List UInt8→Bool
 | _::a::b::_=>zbn a&&zbn b
 | _=>false
def zcn:List UInt8→UInt8
 | _::a::b::_=>UInt8.ofNat (16*hvN a+hvN b)
 | _=>0
theorem drop3 (s:ByteArray) (k:Nat) (h:k+2<s.size):s.data.toList.drop k=s[k]::s[k+1]::s[k+2]::s.data.toList.drop (k+3):=by
 rw[za0 s k (by omega),za0 s (k+1) (by omega),za0 s (k+2) (by omega)]
theorem zfg (s:ByteArray) (k:Nat) (h:¬k+2<s.size):zbt (s.data.toList.drop k)=false:=by
 have hl:(s.data.toList.drop k).length≤2:=by rw[List.length_drop,zaa];omega
 revert hl
 generalize s.data.toList.drop k=l
 intro hl
 match l,hl with
 | [],_=>rfl
 | [_],_=>rfl
 | [_,_],_=>rfl
theorem zcL (s:ByteArray) (k:Nat) (hk:k≤s.size) (hs:s.size≤maxLen) (w:World) :
  Calls Tryz.prog 171 #[.string s,.int .i64 k] w fun e w'=>e=.returned (.bool (zbt (s.data.toList.drop k)))∧w=w':=by
 unfold maxLen at hs
 by_cases hlt:k+2<s.size
 ·have HD:=Lib.hid (drop3 s k hlt)
  go_enter Tryz.func171,Tryz.ntmps171
  go_wp2_with (go_at_call 195;refine(zrO _ _).mono ?_;rintro e w' ⟨rfl,rfl⟩)
  ·have h1:zbn s[k+1]=true:=by assumption
   go_ret
   exact⟨zak (by rw[HD.out];simp only[zbt,h1,Bool.true_and]),rfl⟩
  ·have h1:¬zbn s[k+1]=true:=by assumption
   go_ret
   exact⟨zak (by rw[HD.out];simp only[zbt,Bool.eq_false_iff.2 h1,Bool.false_and]),rfl⟩
 ·have HD:=Lib.hid (zfg s k hlt)
  go_enter Tryz.func171,Tryz.ntmps171
  go_wp2_with fail
  go_ret
  exact⟨zak HD.out.symm,rfl⟩
theorem zm7 {a b:UInt8} (ha:zbn a=true) (hb:zbn b=true):(UInt8.ofNat (16*hvN a+hvN b)).toNat=16*(hv a).toNat+(hv b).toNat:=by
 have h1:=zcQ ha
 have h2:=zcQ hb
 rw[UInt8.toNat_ofNat',h1.1,h2.1];omega
def zok (l:List UInt8):UInt8:=if zbt l=true then zcn l else 0
theorem zlC {l:List UInt8} (h:zbt l=false):zok l=0:=by unfold zok;rw[if_neg (by rw[h];exact Bool.false_ne_true)]
theorem zjl {l:List UInt8} (h:zbt l=true):zok l=zcn l:=if_pos h
theorem zdi (s:ByteArray) (k:Nat) (hk:k<s.size) (hs:s.size≤140737488351232) (h37:s[k]=37) (w:World) :
  Calls Tryz.prog 74 #[.string s,.int .i64 k] w fun e w'=>e=.returned (.tuple #[.int .u8 (zok (s.data.toList.drop k)).toNat,.bool (zbt (s.data.toList.drop k))])∧Qb w w':=by
 have hne:((s[k].toNat:Int) != 37)=false:=by rw[h37];rfl
 have H37:=Lib.hid h37
 clear h37
 by_cases hlt:k+2<s.size
 ·have HD:=Lib.hid (drop3 s k hlt)
  rcases ha:zbn s[k+1] with _|_
  ·have ho:zbt (s.data.toList.drop k)=false:=by rw[HD.out];simp only[zbt,ha,Bool.false_and]
   have hr:=zlC ho
   have HO:=Lib.hid (And.intro ho hr)
   clear ho hr
   go_enter Tryz.func74,Tryz.ntmps74
   go_wp2_with (go_at_call 107;refine(zfZ _ _).mono ?_;rintro e w' ⟨rfl,rfl⟩)
   go_ret2
   exact⟨by rw[HO.out.1,HO.out.2];rfl,Qb.refl w⟩
  ·rcases hb:zbn s[k+2] with _|_
   ·have ho:zbt (s.data.toList.drop k)=false:=by rw[HD.out];simp only[zbt,hb,Bool.and_false]
    have hr:=zlC ho
    have HO:=Lib.hid (And.intro ho hr)
    clear ho hr
    go_enter Tryz.func74,Tryz.ntmps74
    go_wp2_with (go_at_call 107;refine(zfZ _ _).mono ?_;rintro e w' ⟨rfl,rfl⟩)
    go_ret2
    exact⟨by rw[HO.out.1,HO.out.2];rfl,Qb.refl w⟩
   ·have n1:=(zcQ ha).2
    rw[←(zcQ ha).1] at n1
    have n2:=(zcQ hb).2
    rw[←(zcQ hb).1] at n2
    have ho:zbt (s.data.toList.drop k)=true:=by rw[HD.out];simp only[zbt,ha,hb,Bool.and_true]
    have hr:=zjl ho
    have hv2:(zcn (s.data.toList.drop k)).toNat=16*(hv s[k+1]).toNat+(hv s[k+2]).toNat:=by
     rw[HD.out];exact zm7 ha hb
    have HO:=Lib.hid (And.intro ho (And.intro hr hv2))
    clear ho hr hv2
    go_enter Tryz.func74,Tryz.ntmps74
    go_wp2_with (go_at_call 107;refine(zfZ _ _).mono ?_;rintro e w' ⟨rfl,rfl⟩)
    go_quiet ((go_at_call 108;exact zdb (zn3 _ (by assumption) _)))
    go_wp2_with fail
    go_ret2
    exact⟨by rw[HO.out.1,HO.out.2.1,HO.out.2.2,Int.natCast_add,Int.natCast_mul];rfl,(Qb.refl w).drewN _⟩
 ·have ho:=zfg s k hlt
  have hr:=zlC ho
  have HO:=Lib.hid (And.intro ho hr)
  clear ho hr
  go_enter Tryz.func74,Tryz.ntmps74
  go_wp2_with fail
  go_ret2
  exact⟨by rw[HO.out.1,HO.out.2];rfl,Qb.refl w⟩
end Go.Proofs.YtnnipcgblooemaaGreatDoor
namespace Go.Proofs.YtnnipcgblooemaaGreatDoor
open Go.RowKit
abbrev zh1:=List UInt8→UInt8→Bool→Int×List UInt8
def rwS (add:zh1):Nat→List UInt8→List UInt8→Int×List UInt8
 | _,[],out=>(0,out)
 | n+1,_::l,out=>rwS add n l out
 | 0,c::l,out=>
  if c=37 then
   if zbt (c::l)=true then
    if (add out (zcn (c::l)) true).1=0 then rwS add 2 l (add out (zcn (c::l)) true).2 else ((add out (zcn (c::l)) true).1,[])
   else (2,[])
  else if (add out c false).1=0 then rwS add 0 l (add out c false).2 else ((add out c false).1,[])
section
variable (add:zh1) (s:ByteArray) (k:Nat) (out:List UInt8)
theorem ziS (n:Nat) (h:¬k<s.size):rwS add n (s.data.toList.drop k) out=(0,out):=by
 rw[List.drop_of_length_le (by rw[zaa];omega),rwS]
theorem zl5 (m:Nat) (h:k<s.size) (hm:k<m):rwS add (m - k) (s.data.toList.drop k) out=rwS add (m - (k+1)) (s.data.toList.drop (k+1)) out:=by
 rw[za0 s k h,show m - k=(m - (k+1))+1 from by omega,rwS]
theorem ziT (h:k<s.size) (hc:s[k]=37) (he:zbt (s.data.toList.drop k)=false):rwS add 0 (s.data.toList.drop k) out=(2,[]):=by
 rw[za0 s k h] at he ⊢
 rw[rwS,if_pos hc,if_neg (by rw[he];exact Bool.false_ne_true)]
theorem zg8 (h:k<s.size) (hc:s[k]=37) (he:zbt (s.data.toList.drop k)=true) (ha:(add out (zcn (s.data.toList.drop k)) true).1=0) :
  rwS add 0 (s.data.toList.drop k) out=rwS add (k+3 - (k+1)) (s.data.toList.drop (k+1)) (add out (zcn (s.data.toList.drop k)) true).2:=by
 rw[za0 s k h] at he ha
 rw[show k+3 - (k+1)=2 from by omega]
 conv=>lhs;rw[za0 s k h]
 rw[rwS,if_pos hc,if_pos he,if_pos ha,←za0 s k h]
theorem zg7 (h:k<s.size) (hc:s[k]=37) (he:zbt (s.data.toList.drop k)=true) (ha:(add out (zcn (s.data.toList.drop k)) true).1≠0) :
  rwS add 0 (s.data.toList.drop k) out=((add out (zcn (s.data.toList.drop k)) true).1,[]):=by
 rw[za0 s k h] at he ha ⊢
 rw[rwS,if_pos hc,if_pos he,if_neg ha]
theorem ziQ (h:k<s.size) (hc:s[k]≠37) (ha:(add out s[k] false).1=0) :
  rwS add 0 (s.data.toList.drop k) out=rwS add (k+1 - (k+1)) (s.data.toList.drop (k+1)) (add out s[k] false).2:=by
 rw[Nat.sub_self]
 conv=>lhs;rw[za0 s k h]
 rw[rwS,if_neg hc,if_pos ha]
theorem ze8 (h:k<s.size) (hc:s[k]≠37) (ha:(add out s[k] false).1≠0) :
  rwS add 0 (s.data.toList.drop k) out=((add out s[k] false).1,[]):=by
 conv=>lhs;rw[za0 s k h]
 rw[rwS,if_neg hc,if_neg ha]
theorem zgb (he:zbt (s.data.toList.drop k)=true):k+2<s.size:=by
 rcases Nat.lt_or_ge (k+2) s.size with h|h
 ·exact h
 ·rw[zfg s k (by omega)] at he;cases he
theorem zkF (he:zbt (s.data.toList.drop k)=true):∃h:k+2<s.size,zbn s[k+1]=true∧zbn s[k+2]=true∧(zcn (s.data.toList.drop k)).toNat=16*(hv s[k+1]).toNat+(hv s[k+2]).toNat:=by
 have h:=zgb s k he
 rw[drop3 s k h] at he ⊢
 simp only[zbt,Bool.and_eq_true] at he
 exact⟨h,he.1,he.2,zm7 he.1 he.2⟩
end
def zcf:zh1:=fun out x _=>(0,out++[x])
def zcb (also:List UInt8):zh1:=fun out x e=>if (e&&!zav x)=true then (0,out++zc5 x) else if zaT x also=true then (0,out++[x]) else (1,[])
def zfk (r:Int×List UInt8) (n:Nat):Int×List UInt8:=if 16384<n then (5,[]) else r
def zaR (l:List UInt8):Int×List UInt8:=zfk (rwS zcf 0 l []) l.length
def zaj (l also:List UInt8):Int×List UInt8:=zfk (rwS (zcb also) 0 l []) l.length
def zbX (l keep:List UInt8):List UInt8:=l.flatMap fun c=>if zaT c keep=true then [c] else zc5 c
theorem or_shl:∀a b:Fin 16,bits .or .u8 (((a.val*16:Nat):Int)) ((b.val:Nat):Int)=((16*a.val+b.val:Nat):Int):=by decide +kernel
def zrQ (r:Int×List UInt8) (B:Nat) (w:World) (en:Ending) (w':World):Prop :=
 ∃v',en=.returned (.tuple #[v',.int .i64 r.1])∧(r.1=0→zci w' B v' r.2)∧Below B w w'
theorem ziA (v:Value) (l:List UInt8) (x:UInt8) (e:Bool) (B:Nat) (w:World) (h:zci w B v l) (hl:l.length≤1000000000) (hB:B≤w.heap.size) :
  Calls Tryz.prog 162 #[v,.int .u8 x.toNat,.bool e] w (zrQ (zcf l x e) B w):=by
 go_enter Tryz.func162,Tryz.ntmps162
 go_wp2_with (at_builtin;refine zaP rfl (.tmp 8) (.tmp 10) rfl B v l [x] rfl (h.alloc _) _ _ _ rfl rfl (zi6 _ _) (by simp;omega) (by simp;omega) ?_;intro v1 w1 hr1 hb1)
 go_ret2
 exact⟨v1,rfl,fun _=>hr1,((Below.refl B w).alloc hB _).trans hb1⟩
theorem zcM {also l:List UInt8} {x:UInt8} (hu:zav x=false):zcb also l x true=(0,l++zc5 x):=by unfold zcb;rw[if_pos (by rw[hu];rfl)]
theorem za1 {also l:List UInt8} {x:UInt8} {e:Bool} (hu:(e&&!zav x)=false) (hp:zaT x also=true):zcb also l x e=(0,l++[x]):=by
 unfold zcb;rw[if_neg (by rw[hu];exact Bool.false_ne_true),if_pos hp]
theorem zfM {also l:List UInt8} {x:UInt8} {e:Bool} (hu:(e&&!zav x)=false) (hp:zaT x also=false):zcb also l x e=(1,[]):=by
 unfold zcb;rw[if_neg (by rw[hu];exact Bool.false_ne_true),if_neg (by rw[hp];exact Bool.false_ne_true)]
theorem znI {also l:List UInt8} {x:UInt8} {e:Bool}:(zcb also l x e).2.length≤l.length+3:=by
 unfold zcb
 repeat' split
 all_goals simp[zc5]
theorem znJ {l:List UInt8} {x:UInt8} {e:Bool}:(zcf l x e).2.length≤l.length+3:=by simp[zcf]
theorem zhr (v:Value) (l:List UInt8) (x:UInt8) (e:Bool) (B g:Nat) (also:ByteArray) (w:World) (h:zci w B v l) (hl:l.length≤1000000000) (hB:B≤w.heap.size) (hc:w.cell? ⟨g,0,none⟩=some (.string also)) :
  Calls Tryz.prog 140 #[v,.int .u8 x.toNat,.bool e,.pointer (some ⟨g,0,none⟩)] w (zrQ (zcb also.data.toList l x e) B w):=by
 rcases hu:(e&&!zav x) with _|_
 ·rcases hp:zaT x also.data.toList with _|_
  ·rw[zfM hu hp]
   cases e
   ·clear hu
    go_enter Tryz.func140,Tryz.ntmps140
    go_wp2_with (go_at_call 43;refine(zcI _ _ _).mono ?_;rintro e w' ⟨rfl,rfl⟩)
    go_ret2
    exact⟨_,rfl,fun h=>absurd h (by decide),Below.refl _ _⟩
   ·have hu':zav x=true:=by simpa using hu
    clear hu
    go_enter Tryz.func140,Tryz.ntmps140
    go_wp2_with (first|(go_at_call 70;refine(zch _ _).mono ?_;rintro e w' ⟨rfl,rfl⟩)|(go_at_call 43;refine(zcI _ _ _).mono ?_;rintro e w' ⟨rfl,rfl⟩))
    go_ret2
    exact⟨_,rfl,fun h=>absurd h (by decide),Below.refl _ _⟩
  ·rw[za1 hu hp]
   cases e
   ·clear hu
    go_enter Tryz.func140,Tryz.ntmps140
    go_wp2_with (first|(go_at_call 43;refine(zcI _ _ _).mono ?_;rintro e w' ⟨rfl,rfl⟩)|(at_builtin;refine zaP rfl (.tmp 23) (.tmp 25) rfl B v l [x] rfl (h.alloc _) _ _ _ rfl rfl (zi6 _ _) (by simp;omega) (by simp;omega) ?_;intro v1 w1 hr1 hb1))
    go_ret2
    exact⟨v1,rfl,fun _=>hr1,((Below.refl B _).alloc hB _).trans hb1⟩
   ·have hu':zav x=true:=by simpa using hu
    clear hu
    go_enter Tryz.func140,Tryz.ntmps140
    go_wp2_with (first|(go_at_call 70;refine(zch _ _).mono ?_;rintro e w' ⟨rfl,rfl⟩)|(go_at_call 43;refine(zcI _ _ _).mono ?_;rintro e w' ⟨rfl,rfl⟩)|(at_builtin;refine zaP rfl (.tmp 23) (.tmp 25) rfl B v l [x] rfl (h.alloc _) _ _ _ rfl rfl (zi6 _ _) (by simp;omega) (by simp;omega) ?_;intro v1 w1 hr1 hb1))
    go_ret2
    exact⟨v1,rfl,fun _=>hr1,((Below.refl B _).alloc hB _).trans hb1⟩
 ·have he:e=true:=by cases e<;>simp_all
  subst he
  have hu':zav x=false:=by simpa using hu
  clear hu
  rw[zcM hu']
  go_enter Tryz.func140,Tryz.ntmps140
  go_wp2_with (first|(go_at_call 70;refine(zch _ _).mono ?_;rintro e w' ⟨rfl,rfl⟩)|(go_at_call 44;refine(zeh v l x B _ h hl hB).mono ?_;rintro e w1 ⟨v1,rfl,hr1,hb1⟩))
  go_ret2
  exact⟨v1,rfl,fun _=>hr1,hb1⟩
end Go.Proofs.YtnnipcgblooemaaGreatDoor
namespace Go.Proofs.YtnnipcgblooemaaGreatDoor
open Go.RowKit
set_option maxHeartbeats 800000 in
theorem zjZ (s:ByteArray) (w:World) (hs:s.size≤16384) :
  Calls Tryz.prog 139 #[.string s,.func (.func 162) #[] #[]] w fun e w'=>e=.returned (zcZ (rwS zcf 0 s.data.toList []))∧Qb w w':=by
 have hmk:=fun W=>zfC s.size (by omega) W
 go_enter Tryz.func139,Tryz.ntmps139
 go_wp2_with fail
 clear hmk
 go_loopw [6,7,8,9,10,11,20] (fun v m _ _ _ _ i wr=>∃k j:Nat,∃l,k≤s.size∧k≤j∧j≤s.size∧m=.int .i64 j∧i=.int .i64 k∧zci wr w.heap.size v l∧l.length≤3*k∧Hid (rwS zcf 0 s.data.toList []=rwS zcf (j - k) (s.data.toList.drop k) l)∧Qb w wr) (fun _ _ _ _ _ _ i _=>s.size - (intOf i).toNat)
 case atStart=>exact⟨0,0,[],Nat.zero_le _,Nat.le_refl _,Nat.zero_le _,rfl,rfl,zeD w _ 0 _ (Nat.le_refl _) (Nat.zero_le _) (by omega),Nat.zero_le _,Lib.hid rfl,(Qb.refl w).alloc _⟩
 case round=>
  obtain⟨k,j,l,hk,hkj,hj,rfl,rfl,hrow,hlen,HR,hq⟩:=hrel
  by_cases hlt:k<s.size
  ·by_cases hskip:k<j
   ·have HS:=Lib.hid (zl5 zcf s k l j hlt hskip)
    go_wp2_with fail
    go_roundw
    case rel=>exact⟨k+1,j,l,by omega,by omega,hj,rfl,by go_num,hrow,by omega,Lib.hid (HR.out.trans HS.out),hq⟩
    case measure=>simp[intOf];omega
   ·obtain rfl:k=j:=by omega
    rw[Nat.sub_self] at HR
    have hB:w.heap.size≤wr.heap.size:=hq.size
    by_cases hc:s[k]=37
    ·have h37:((s[k].toNat:Int)==37)=true:=by rw[hc];rfl
     have HC:=Lib.hid hc
     clear hc
     rcases he:zbt (s.data.toList.drop k) with _|_
     ·have HE:=Lib.hid (ziT zcf s k l hlt HC.out he)
      go_wp2_with (go_at_call 171;refine(zcL s k (by omega) (by unfold maxLen;omega) _).mono ?_;rintro e w' ⟨rfl,rfl⟩)
      go_ret2
      exact⟨by rw[HR.out,HE.out];rfl,hq⟩
     ·obtain⟨h2,ha,hb,hv2⟩:=zkF s k he
      have n1:=(zcQ ha).2
      rw[←(zcQ ha).1] at n1
      have n2:=(zcQ hb).2
      rw[←(zcQ hb).1] at n2
      have hor:bits .or .u8 (((hv s[k+1]).toNat:Int)*16) ((hv s[k+2]).toNat:Int)=((zcn (s.data.toList.drop k)).toNat:Int):=by
       rw[hv2,←or_shl ⟨_,n1⟩ ⟨_,n2⟩];rfl
      have HV:=Lib.hid hor
      have HE0:=Lib.hid he
      clear hv2 hor
      have q1:IntKind.i64.wrap ((k:Int)+1)=(k:Int)+1:=IntWalk.i64_in _ (by omega)
      have q2:(0:Int)≤(k:Int)+1:=by omega
      have q3:((k:Int)+1).toNat=k+1:=by omega
      have q4:(k:Int)+1<s.size:=by omega
      have q5:IntKind.i64.wrap ((k:Int)+2)=(k:Int)+2:=IntWalk.i64_in _ (by omega)
      have q6:(0:Int)≤(k:Int)+2:=by omega
      have q7:((k:Int)+2).toNat=k+2:=by omega
      have q8:(k:Int)+2<s.size:=by omega
      go_wp2_with (go_at_call 171;refine(zcL s k (by omega) (by unfold maxLen;omega) _).mono ?_;rintro e w' ⟨rfl,rfl⟩)
      go_quiet ((go_at_call 172;exact zdb (zii _ (by assumption) _)))
      clear he
      go_wp2_with fail
      rw[HV.out]
      refine(ziA _ l (zcn (s.data.toList.drop k)) true w.heap.size _ (by exact hrow) (by omega) (by exact hB)).mono ?_
      rintro en w2 ⟨v2,rfl,hr2,hb2⟩
      have hq2:Qb w w2:=Below.trans (hq.drewN _) hb2
      have hl2:=znJ (l:=l) (x:=zcn (s.data.toList.drop k)) (e:=true)
      by_cases h0:(zcf l (zcn (s.data.toList.drop k)) true).1=0
      ·have hr3:=hr2 h0
       have HE:=Lib.hid (zg8 zcf s k l hlt HC.out HE0.out h0)
       clear hr2
       generalize hout:(zcf l (zcn (s.data.toList.drop k)) true).2=l2 at *
       have HO:=Lib.hid hout
       clear hout
       go_wp2_with fail
       go_roundw
       case rel=>exact⟨k+1,k+3,l2,by omega,by omega,by omega,by go_num,by go_num,hr3,by omega,Lib.hid (HR.out.trans HE.out),hq2⟩
       case measure=>simp[intOf];omega
      ·have HE:=Lib.hid (zg7 zcf s k l hlt HC.out HE0.out h0)
       have h1:(((zcf l (zcn (s.data.toList.drop k)) true).1) != 0)=true:=bne_iff_ne.2 h0
       clear h0 hr2
       go_wp2_with fail
       go_ret2
       exact⟨by rw[HR.out,HE.out];rfl,hq2⟩
    ·have h37:((s[k].toNat:Int)==37)=false:=by
      rw[beq_eq_false_iff_ne]
      intro e
      exact hc (UInt8.toNat_inj.1 (show s[k].toNat=37 from by omega))
     have HC:=Lib.hid hc
     clear hc
     all_goals
      go_wp2_with fail
      refine(ziA _ l (s[k]) false w.heap.size _ (by exact hrow) (by omega) (by exact hB)).mono ?_
      rintro en w2 ⟨v2,rfl,hr2,hb2⟩
      have hq2:Qb w w2:=Below.trans hq hb2
      have hl2:=znJ (l:=l) (x:=s[k]) (e:=false)
      by_cases h0:(zcf l (s[k]) false).1=0
      ·have hr3:=hr2 h0
       have HE:=Lib.hid (ziQ zcf s k l hlt HC.out h0)
       clear hr2
       generalize hout:(zcf l (s[k]) false).2=l2 at *
       have HO:=Lib.hid hout
       clear hout
       go_wp2_with fail
       go_roundw
       case rel=>exact⟨k+1,k+1,l2,by omega,by omega,by omega,by go_num,by go_num,hr3,by omega,Lib.hid (HR.out.trans HE.out),hq2⟩
       case measure=>simp[intOf];omega
      ·have HE:=Lib.hid (ze8 zcf s k l hlt HC.out h0)
       have h1:(((zcf l (s[k]) false).1) != 0)=true:=bne_iff_ne.2 h0
       clear h0 hr2
       go_wp2_with fail
       go_ret2
       exact⟨by rw[HR.out,HE.out];rfl,hq2⟩
  ·have HE:=Lib.hid (ziS zcf s k l (j - k) hlt)
   have hst:=ze9 hrow
   go_wp2_with fail
   go_ret2
   exact⟨by rw[HR.out,HE.out];rfl,hq⟩
set_option maxHeartbeats 800000 in
theorem zjY (s:ByteArray) (g:Nat) (also:ByteArray) (w:World) (hs:s.size≤16384) (hg:g<w.heap.size) (hc0:w.cell? ⟨g,0,none⟩=some (.string also)) :
  Calls Tryz.prog 139 #[.string s,.func (.func 140) #[] #[.pointer (some ⟨g,0,none⟩)]] w fun e w'=>e=.returned (zcZ (rwS (zcb also.data.toList) 0 s.data.toList []))∧Qb w w':=by
 have hmk:=fun W=>zfC s.size (by omega) W
 go_enter Tryz.func139,Tryz.ntmps139
 go_wp2_with fail
 clear hmk
 go_loopw [6,7,8,9,10,11,20] (fun v m _ _ _ _ i wr=>∃k j:Nat,∃l,k≤s.size∧k≤j∧j≤s.size∧m=.int .i64 j∧i=.int .i64 k∧zci wr w.heap.size v l∧l.length≤3*k∧Hid (rwS (zcb also.data.toList) 0 s.data.toList []=rwS (zcb also.data.toList) (j - k) (s.data.toList.drop k) l)∧Qb w wr) (fun _ _ _ _ _ _ i _=>s.size - (intOf i).toNat)
 case atStart=>exact⟨0,0,[],Nat.zero_le _,Nat.le_refl _,Nat.zero_le _,rfl,rfl,zeD w _ 0 _ (Nat.le_refl _) (Nat.zero_le _) (by omega),Nat.zero_le _,Lib.hid rfl,(Qb.refl w).alloc _⟩
 case round=>
  obtain⟨k,j,l,hk,hkj,hj,rfl,rfl,hrow,hlen,HR,hq⟩:=hrel
  by_cases hlt:k<s.size
  ·by_cases hskip:k<j
   ·have HS:=Lib.hid (zl5 (zcb also.data.toList) s k l j hlt hskip)
    go_wp2_with fail
    go_roundw
    case rel=>exact⟨k+1,j,l,by omega,by omega,hj,rfl,by go_num,hrow,by omega,Lib.hid (HR.out.trans HS.out),hq⟩
    case measure=>simp[intOf];omega
   ·obtain rfl:k=j:=by omega
    rw[Nat.sub_self] at HR
    have hB:w.heap.size≤wr.heap.size:=hq.size
    have hcw:wr.cell? ⟨g,0,none⟩=some (.string also):=(hq.below.cell (p:=⟨g,0,none⟩) hg).trans hc0
    by_cases hc:s[k]=37
    ·have h37:((s[k].toNat:Int)==37)=true:=by rw[hc];rfl
     have HC:=Lib.hid hc
     clear hc
     rcases he:zbt (s.data.toList.drop k) with _|_
     ·have HE:=Lib.hid (ziT (zcb also.data.toList) s k l hlt HC.out he)
      go_wp2_with (go_at_call 171;refine(zcL s k (by omega) (by unfold maxLen;omega) _).mono ?_;rintro e w' ⟨rfl,rfl⟩)
      go_ret2
      exact⟨by rw[HR.out,HE.out];rfl,hq⟩
     ·obtain⟨h2,ha,hb,hv2⟩:=zkF s k he
      have n1:=(zcQ ha).2
      rw[←(zcQ ha).1] at n1
      have n2:=(zcQ hb).2
      rw[←(zcQ hb).1] at n2
      have hor:bits .or .u8 (((hv s[k+1]).toNat:Int)*16) ((hv s[k+2]).toNat:Int)=((zcn (s.data.toList.drop k)).toNat:Int):=by
       rw[hv2,←or_shl ⟨_,n1⟩ ⟨_,n2⟩];rfl
      have HV:=Lib.hid hor
      have HE0:=Lib.hid he
      clear hv2 hor
      have q1:IntKind.i64.wrap ((k:Int)+1)=(k:Int)+1:=IntWalk.i64_in _ (by omega)
      have q2:(0:Int)≤(k:Int)+1:=by omega
      have q3:((k:Int)+1).toNat=k+1:=by omega
      have q4:(k:Int)+1<s.size:=by omega
      have q5:IntKind.i64.wrap ((k:Int)+2)=(k:Int)+2:=IntWalk.i64_in _ (by omega)
      have q6:(0:Int)≤(k:Int)+2:=by omega
      have q7:((k:Int)+2).toNat=k+2:=by omega
      have q8:(k:Int)+2<s.size:=by omega
      go_wp2_with (go_at_call 171;refine(zcL s k (by omega) (by unfold maxLen;omega) _).mono ?_;rintro e w' ⟨rfl,rfl⟩)
      go_quiet ((go_at_call 172;exact zdb (zii _ (by assumption) _)))
      clear he
      go_wp2_with fail
      rw[HV.out]
      refine(zhr _ l (zcn (s.data.toList.drop k)) true w.heap.size g also _ (by exact hrow) (by omega) (by exact hB) (by exact hcw)).mono ?_
      rintro en w2 ⟨v2,rfl,hr2,hb2⟩
      have hq2:Qb w w2:=Below.trans (hq.drewN _) hb2
      have hl2:=znI (also:=also.data.toList) (l:=l) (x:=zcn (s.data.toList.drop k)) (e:=true)
      by_cases h0:((zcb also.data.toList) l (zcn (s.data.toList.drop k)) true).1=0
      ·have hr3:=hr2 h0
       have HE:=Lib.hid (zg8 (zcb also.data.toList) s k l hlt HC.out HE0.out h0)
       clear hr2
       generalize hout:((zcb also.data.toList) l (zcn (s.data.toList.drop k)) true).2=l2 at *
       have HO:=Lib.hid hout
       clear hout
       go_wp2_with fail
       go_roundw
       case rel=>exact⟨k+1,k+3,l2,by omega,by omega,by omega,by go_num,by go_num,hr3,by omega,Lib.hid (HR.out.trans HE.out),hq2⟩
       case measure=>simp[intOf];omega
      ·have HE:=Lib.hid (zg7 (zcb also.data.toList) s k l hlt HC.out HE0.out h0)
       have h1:((((zcb also.data.toList) l (zcn (s.data.toList.drop k)) true).1) != 0)=true:=bne_iff_ne.2 h0
       clear h0 hr2
       go_wp2_with fail
       go_ret2
       exact⟨by rw[HR.out,HE.out];rfl,hq2⟩
    ·have h37:((s[k].toNat:Int)==37)=false:=by
      rw[beq_eq_false_iff_ne]
      intro e
      exact hc (UInt8.toNat_inj.1 (show s[k].toNat=37 from by omega))
     have HC:=Lib.hid hc
     clear hc
     all_goals
      go_wp2_with fail
      refine(zhr _ l (s[k]) false w.heap.size g also _ (by exact hrow) (by omega) (by exact hB) (by exact hcw)).mono ?_
      rintro en w2 ⟨v2,rfl,hr2,hb2⟩
      have hq2:Qb w w2:=Below.trans hq hb2
      have hl2:=znI (also:=also.data.toList) (l:=l) (x:=s[k]) (e:=false)
      by_cases h0:((zcb also.data.toList) l (s[k]) false).1=0
      ·have hr3:=hr2 h0
       have HE:=Lib.hid (ziQ (zcb also.data.toList) s k l hlt HC.out h0)
       clear hr2
       generalize hout:((zcb also.data.toList) l (s[k]) false).2=l2 at *
       have HO:=Lib.hid hout
       clear hout
       go_wp2_with fail
       go_roundw
       case rel=>exact⟨k+1,k+1,l2,by omega,by omega,by omega,by go_num,by go_num,hr3,by omega,Lib.hid (HR.out.trans HE.out),hq2⟩
       case measure=>simp[intOf];omega
      ·have HE:=Lib.hid (ze8 (zcb also.data.toList) s k l hlt HC.out h0)
       have h1:((((zcb also.data.toList) l (s[k]) false).1) != 0)=true:=bne_iff_ne.2 h0
       clear h0 hr2
       go_wp2_with fail
       go_ret2
       exact⟨by rw[HR.out,HE.out];rfl,hq2⟩
  ·have HE:=Lib.hid (ziS (zcb also.data.toList) s k l (j - k) hlt)
   have hst:=ze9 hrow
   go_wp2_with fail
   go_ret2
   exact⟨by rw[HR.out,HE.out];rfl,hq⟩
end Go.Proofs.YtnnipcgblooemaaGreatDoor
namespace Go.Proofs.YtnnipcgblooemaaGreatDoor
open Go.RowKit
theorem zfv (s:ByteArray) (f:Value) (w:World) (hs:¬s.size≤16384) :
  Calls Tryz.prog 139 #[.string s,f] w fun e w'=>e=.returned (zcZ (5,[]))∧w=w':=by
 go_enter Tryz.func139,Tryz.ntmps139
 go_wp2_with fail
 go_ret2
 exact⟨rfl,rfl⟩
theorem zhn (s:ByteArray) (w:World) :
  Calls Tryz.prog 131 #[.string s] w fun e w'=>e=.returned (zcZ (zaR s.data.toList))∧Qb w w':=by
 have hmf:∀(fn:Fn) (first cap:Array Value) (w:World),(Instr.makeFunc fn first cap).run Tryz.prog w=.ok (.func fn first cap) w:=fun _ _ _ _=>rfl
 by_cases hs:s.size≤16384
 ·have hd:zaR s.data.toList=rwS zcf 0 s.data.toList []:=by unfold zaR zfk;rw[if_neg (by rw[zaa];omega)]
  rw[hd]
  go_enter Tryz.func131,Tryz.ntmps131
  go_wp2_with fail
  refine(zjZ s _ hs).mono ?_
  rintro e w1 ⟨rfl,hq1⟩
  unfold zcZ
  go_wp2_with fail
  go_ret2
  exact⟨rfl,hq1⟩
 ·have hd:zaR s.data.toList=(5,[]):=by unfold zaR zfk;rw[if_pos (by rw[zaa];omega)]
  rw[hd]
  go_enter Tryz.func131,Tryz.ntmps131
  go_wp2_with fail
  refine(zfv s _ _ hs).mono ?_
  rintro e w1 ⟨rfl,rfl⟩
  unfold zcZ
  go_wp2_with fail
  go_ret2
  exact⟨rfl,Qb.refl _⟩
theorem zdR (s a:ByteArray) (w:World) :
  Calls Tryz.prog 118 #[.string s,.string a] w fun e w'=>e=.returned (zcZ (zaj s.data.toList a.data.toList))∧Qb w w':=by
 have hmf:∀(fn:Fn) (first cap:Array Value) (w:World),(Instr.makeFunc fn first cap).run Tryz.prog w=.ok (.func fn first cap) w:=fun _ _ _ _=>rfl
 by_cases hs:s.size≤16384
 ·have hd:zaj s.data.toList a.data.toList=rwS (zcb a.data.toList) 0 s.data.toList []:=by unfold zaj zfk;rw[if_neg (by rw[zaa];omega)]
  rw[hd]
  go_enter Tryz.func118,Tryz.ntmps118
  go_wp2_with fail
  refine(zjY s w.heap.size a _ hs (by simp) (by rw[World.cell?_alloc_at _ _ _ _ rfl];rfl)).mono ?_
  rintro e w1 ⟨rfl,hq1⟩
  unfold zcZ
  go_wp2_with fail
  go_ret2
  exact⟨rfl,((Qb.refl w).alloc _).trans hq1⟩
 ·have hd:zaj s.data.toList a.data.toList=(5,[]):=by unfold zaj zfk;rw[if_pos (by rw[zaa];omega)]
  rw[hd]
  go_enter Tryz.func118,Tryz.ntmps118
  go_wp2_with fail
  refine(zfv s _ _ hs).mono ?_
  rintro e w1 ⟨rfl,rfl⟩
  unfold zcZ
  go_wp2_with fail
  go_ret2
  exact⟨rfl,(Qb.refl w).alloc _⟩
theorem zkG (s keep:ByteArray) (k:Nat) (h:k<s.size):zbX (s.data.toList.take (k+1)) keep.data.toList=zbX (s.data.toList.take k) keep.data.toList++(if zaT s[k] keep.data.toList=true then [s[k]] else zc5 s[k]):=by
 rw[zcq s k h];simp[zbX]
theorem zeR (c:UInt8):(zc5 c).length=3:=rfl
theorem zc6 (l keep:List UInt8):(zbX l keep).length≤3*l.length:=by
 unfold zbX
 induction l with
 | nil=>simp
 | cons c l ih=>
  rw[List.flatMap_cons,List.length_append,List.length_cons]
  split<;>simp only[zeR,List.length_cons,List.length_nil]<;>omega
theorem zhl (s keep:ByteArray) (w:World) (hs:s.size≤300000000) :
  Calls Tryz.prog 22 #[.string s,.string keep] w fun e w'=>e=.returned (.string (S (zbX s.data.toList keep.data.toList)))∧Qb w w':=by
 have hmk:=fun W=>zfC s.size (by omega) W
 go_enter Tryz.func22,Tryz.ntmps22
 go_wp2_with fail
 clear hmk
 go_loopw [5,6,12] (fun v _ i wr=>∃k:Nat,∃l,k≤s.size∧i=.int .i64 k∧zci wr w.heap.size v l∧l.length≤3*k∧Hid (l=zbX (s.data.toList.take k) keep.data.toList)∧Qb w wr) (fun _ _ i _=>s.size - (intOf i).toNat)
 case atStart=>exact⟨0,[],Nat.zero_le _,rfl,zeD w _ 0 _ (Nat.le_refl _) (Nat.zero_le _) (by omega),Nat.zero_le _,Lib.hid rfl,(Qb.refl w).alloc _⟩
 case round=>
  obtain⟨k,l,hk,rfl,hrow,hlen,HL,hq⟩:=hrel
  have hB:w.heap.size≤wr.heap.size:=hq.size
  by_cases hlt:k<s.size
  ·have HS:=Lib.hid (zkG s keep k hlt)
   rcases hp:zaT s[k] keep.data.toList with _|_
   ·go_wp2_with (first|(go_at_call 43;refine(zcI _ _ _).mono ?_;rintro e w' ⟨rfl,rfl⟩)|(go_at_call 44;refine(zeh _ l s[k] w.heap.size _ hrow (by omega) hB).mono ?_;rintro e w1 ⟨v1,rfl,hr1,hb1⟩))
    go_roundw
    case rel=>exact⟨k+1,_,by omega,by go_num,hr1,by simp[zc5];omega,Lib.hid (by rw[HS.out,HL.out,hp];rfl),Below.trans hq hb1⟩
    case measure=>simp[intOf];omega
   ·go_wp2_with (first|(go_at_call 43;refine(zcI _ _ _).mono ?_;rintro e w' ⟨rfl,rfl⟩)|(at_builtin;refine zaP rfl (.tmp 20) (.tmp 24) rfl w.heap.size _ l [s[k]] rfl (hrow.alloc _) _ _ _ rfl rfl (zi6 _ _) (by simp;omega) (by simp;omega) ?_;intro v1 w1 hr1 hb1))
    go_roundw
    case rel=>exact⟨k+1,_,by omega,by go_num,hr1,by simp;omega,Lib.hid (by rw[HS.out,HL.out,hp];rfl),Below.trans (hq.alloc _) hb1⟩
    case measure=>simp[intOf];omega
  ·have HE:=Lib.hid (zbO s k hlt)
   have hst:=ze9 hrow
   go_wp2_with fail
   go_ret
   exact⟨zfw (by rw[HL.out,HE.out]),hq⟩
theorem zbH (add:zh1):∀(n:Nat) (l out:List UInt8),rwS add n l out=rwS add 0 (l.drop n) out
 | 0,l,out=>rfl
 | n+1,[],out=>by rw[List.drop_nil,rwS,rwS]
 | n+1,_::l,out=>by rw[rwS,List.drop_succ_cons];exact zbH add n l out
theorem zo4 (add:zh1) (s:ByteArray) (k j:Nat) (h:k≤j) (out:List UInt8):rwS add (j - k) (s.data.toList.drop k) out=rwS add 0 (s.data.toList.drop j) out:=by
 rw[zbH,List.drop_drop,show k+(j - k)=j from by omega]
theorem zcF (s:ByteArray) (w:World) :
  Calls Tryz.prog 54 #[.string s] w fun e w'=>e=.returned (zcZ (zaR s.data.toList))∧Qb w w':=by
 by_cases hs:s.size≤16384
 ·have hd:zaR s.data.toList=rwS zcf 0 s.data.toList []:=by unfold zaR zfk;rw[if_neg (by rw[zaa];omega)]
  rw[hd]
  go_enter Tryz.func54,Tryz.ntmps54
  go_wp2_with fail
  go_loopw [4,5,6,7,8] (fun v i _ _ _ wr=>∃k:Nat,∃l,k≤s.size∧i=.int .i64 k∧zci wr w.heap.size v l∧l.length≤k∧Hid (rwS zcf 0 s.data.toList []=rwS zcf 0 (s.data.toList.drop k) l)∧Qb w wr) (fun _ i _ _ _ _=>s.size - (intOf i).toNat)
  case atStart=>exact⟨0,[],Nat.zero_le _,rfl,zci.nil _ _,Nat.le_refl _,Lib.hid rfl,Qb.refl w⟩
  case round=>
   obtain⟨k,l,hk,rfl,hrow,hlen,HR,hq⟩:=hrel
   have hB:w.heap.size≤wr.heap.size:=hq.size
   by_cases hlt:k<s.size
   ·by_cases hc:s[k]=37
    ·have h37:((s[k].toNat:Int)==37)=true:=by rw[hc];rfl
     have HC:=Lib.hid hc
     clear hc
     rcases he:zbt (s.data.toList.drop k) with _|_
     ·have HE:=Lib.hid (ziT zcf s k l hlt HC.out he)
      go_wp2_with (go_at_call 74;refine(zdi s k hlt (by omega) HC.out _).mono ?_;rintro e w1 ⟨rfl,hq1⟩)
      go_ret2
      exact⟨by rw[HR.out,HE.out];rfl,hq.trans hq1⟩
     ·have HE:=Lib.hid (zg8 zcf s k l hlt HC.out he rfl)
      have HJ:=Lib.hid (zo4 zcf s (k+1) (k+3) (by omega) (l++[zok (s.data.toList.drop k)]))
      have HV:=Lib.hid (zjl he)
      have h2:=zgb s k he
      go_wp2_with (first|(go_at_call 74;refine(zdi s k hlt (by omega) HC.out _).mono ?_;rintro e w0 ⟨rfl,hq1⟩;have hrow0:=hrow.below hq1)|(at_builtin;refine zaP rfl (.tmp 34) (.tmp 36) rfl w.heap.size _ l [zok (s.data.toList.drop k)] rfl (hrow0.alloc _) _ _ _ rfl rfl (zi6 _ _) (by simp;omega) (by have:=hq1.size;simp;omega) ?_;intro v1 w1 hr1 hb1))
      go_roundw
      case rel=>exact⟨k+3,_,by omega,by go_num,hr1,by simp;omega,Lib.hid (by rw[HR.out,HE.out,←HJ.out,HV.out];rfl),Below.trans ((hq.trans hq1).alloc _) hb1⟩
      case measure=>simp[intOf];omega
    ·have h37:((s[k].toNat:Int)==37)=false:=by
      rw[beq_eq_false_iff_ne]
      intro e
      exact hc (UInt8.toNat_inj.1 (show s[k].toNat=37 from by omega))
     have HC:=Lib.hid hc
     clear hc
     have HE:=Lib.hid (ziQ zcf s k l hlt HC.out rfl)
     go_wp2_with (at_builtin;refine zaP rfl (.tmp 34) (.tmp 36) rfl w.heap.size _ l [s[k]] rfl (hrow.alloc _) _ _ _ rfl rfl (zi6 _ _) (by simp;omega) (by simp;omega) ?_;intro v1 w1 hr1 hb1)
     go_roundw
     case rel=>exact⟨k+1,_,by omega,by go_num,hr1,by simp;omega,Lib.hid (by rw[HR.out,HE.out,Nat.sub_self];rfl),Below.trans (hq.alloc _) hb1⟩
     case measure=>simp[intOf];omega
   ·have HE:=Lib.hid (ziS zcf s k l 0 hlt)
    have hst:=ze9 hrow
    go_wp2_with fail
    go_ret2
    exact⟨by rw[HR.out,HE.out];rfl,hq⟩
 ·have hd:zaR s.data.toList=(5,[]):=by unfold zaR zfk;rw[if_pos (by rw[zaa];omega)]
  rw[hd]
  go_enter Tryz.func54,Tryz.ntmps54
  go_wp2_with fail
  go_ret2
  exact⟨rfl,Qb.refl _⟩
end Go.Proofs.YtnnipcgblooemaaGreatDoor
namespace Go.Proofs.YtnnipcgblooemaaGreatDoor
open Go.RowKit
theorem ne37 {c:UInt8} (h:c≠37):((c.toNat:Int)==37)=false:=by
 rw[beq_eq_false_iff_ne]
 intro e
 exact h (UInt8.toNat_inj.1 (show c.toNat=37 from by omega))
theorem one_list (s:ByteArray) (k:Nat) (h:k<s.size):(s.extract k (k+1)).data.toList=[s[k]]:=by
 rw[Lib.extract_data,za0 s k h,show k+1 - k=1 from by omega];rfl
theorem zny (a b:ByteArray):(a++b).data.toList=a.data.toList++b.data.toList:=by
 rw[ByteArray.data_append,Array.toList_append]
theorem za8 {c:UInt8} {l:List UInt8} (h:zav c=true):zaT c l=true:=by unfold zaT;rw[h];rfl
theorem zj8 {l:List UInt8}:zaT 37 l=false:=by unfold zaT;rfl
theorem zhi {c:UInt8} {l:List UInt8} (h:zav c=false) (hc:c≠37):zaT c l=zbe c l:=by
 have h1:(c.toNat != 37)=true:=bne_iff_ne.2 (fun e=>hc (UInt8.toNat_inj.1 e))
 unfold zaT
 rw[h,h1];rfl
theorem u37:zav 37=false:=by decide
theorem zhe (s keep:ByteArray) (w:World) (hs:s.size≤300000000) (ha:keep.size≤maxLen) :
  Calls Tryz.prog 57 #[.string s,.string keep] w fun e w'=>e=.returned (.string (S (zbX s.data.toList keep.data.toList)))∧Qb w w':=by
 go_enter Tryz.func57,Tryz.ntmps57
 go_wp2_with fail
 go_loopw [5,6] (fun v i wr=>∃k:Nat,∃o:ByteArray,k≤s.size∧i=.int .i64 k∧v=.string o∧o.size≤3*k∧Hid (o.data.toList=zbX (s.data.toList.take k) keep.data.toList)∧Qb w wr) (fun _ i _=>s.size - (intOf i).toNat)
 case atStart=>exact⟨0,⟨#[]⟩,Nat.zero_le _,rfl,rfl,Nat.zero_le _,Lib.hid rfl,Qb.refl w⟩
 case round=>
  obtain⟨k,o,hk,rfl,rfl,hlen,HL,hq⟩:=hrel
  by_cases hlt:k<s.size
  ·have HS:=Lib.hid (zkG s keep k hlt)
   have hx:=size_extract s k (k+1) (by omega)
   have hx1:(s.extract k (k+1)).size≤1:=by omega
   have hx2:(S (zc5 s[k])).size≤3:=by rw[zac];exact Nat.le_refl _
   clear hx
   have HO:=Lib.hid (one_list s k hlt)
   have hyes:Hid (zaT s[k] keep.data.toList=true→(o++s.extract k (k+1)).data.toList=zbX (s.data.toList.take (k+1)) keep.data.toList):=Lib.hid fun hp=>by
    rw[zny,HO.out,HS.out,if_pos hp,HL.out]
   have hno:Hid (zaT s[k] keep.data.toList=false→(o++S (zc5 s[k])).data.toList=zbX (s.data.toList.take (k+1)) keep.data.toList):=Lib.hid fun hp=>by
    rw[zny,HS.out,if_neg (by rw[hp];exact Bool.false_ne_true),HL.out]
   have hsz:(o++s.extract k (k+1)).size≤3*(k+1):=by rw[ByteArray.size_append];omega
   have hsz2:(o++S (zc5 s[k])).size≤3*(k+1):=by rw[ByteArray.size_append];omega
   have Hz:=Lib.hid (And.intro hsz hsz2)
   clear hsz hsz2
   rcases hu:zav s[k] with _|_
   ·by_cases hc:s[k]=37
    ·have h37:((s[k].toNat:Int) != 37)=false:=by rw[hc];rfl
     have HP:Hid (zaT s[k] keep.data.toList=false):=Lib.hid (by rw[hc];exact zj8)
     clear hc
     go_wp2_with (first|(go_at_call 53;refine(zaY _ _).mono ?_;rintro e w' ⟨rfl,rfl⟩)|(go_at_call 49;refine(zb7 _ _ _ ha).mono ?_;rintro e w' ⟨rfl,rfl⟩)|(go_at_call 75;refine(zd4 _ _).mono ?_;rintro e w1 ⟨rfl,hq1⟩))
     go_roundw
     case rel=>exact⟨k+1,_,by omega,by go_num,rfl,Hz.out.2,Lib.hid (hno.out HP.out),hq.trans hq1⟩
     case measure=>simp[intOf];omega
    ·have h37:((s[k].toNat:Int) != 37)=true:=by have:=ne37 hc;simpa using this
     have HP:=Lib.hid (zhi (l:=keep.data.toList) hu hc)
     clear hc
     rcases hi:zbe s[k] keep.data.toList with _|_
     ·go_wp2_with (first|(go_at_call 53;refine(zaY _ _).mono ?_;rintro e w' ⟨rfl,rfl⟩)|(go_at_call 49;refine(zb7 _ _ _ ha).mono ?_;rintro e w' ⟨rfl,rfl⟩)|(go_at_call 75;refine(zd4 _ _).mono ?_;rintro e w1 ⟨rfl,hq1⟩))
      go_roundw
      case rel=>exact⟨k+1,_,by omega,by go_num,rfl,Hz.out.2,Lib.hid (hno.out (HP.out.trans hi)),hq.trans hq1⟩
      case measure=>simp[intOf];omega
     ·go_wp2_with (first|(go_at_call 53;refine(zaY _ _).mono ?_;rintro e w' ⟨rfl,rfl⟩)|(go_at_call 49;refine(zb7 _ _ _ ha).mono ?_;rintro e w' ⟨rfl,rfl⟩))
      go_roundw
      case rel=>exact⟨k+1,_,by omega,by go_num,rfl,Hz.out.1,Lib.hid (hyes.out (HP.out.trans hi)),hq⟩
      case measure=>simp[intOf];omega
   ·have HP:=Lib.hid (za8 (l:=keep.data.toList) hu)
    go_wp2_with (first|(go_at_call 53;refine(zaY _ _).mono ?_;rintro e w' ⟨rfl,rfl⟩)|(go_at_call 49;refine(zb7 _ _ _ ha).mono ?_;rintro e w' ⟨rfl,rfl⟩))
    go_roundw
    case rel=>exact⟨k+1,_,by omega,by go_num,rfl,Hz.out.1,Lib.hid (hyes.out HP.out),hq⟩
    case measure=>simp[intOf];omega
  ·have HE:=Lib.hid (zbO s k hlt)
   go_wp2_with fail
   go_ret
   exact⟨zeo (S_eq (by rw[HL.out,HE.out])),hq⟩
set_option maxHeartbeats 800000 in
theorem zdO (s also:ByteArray) (w:World) (ha:also.size≤maxLen) :
  Calls Tryz.prog 51 #[.string s,.string also] w fun e w'=>e=.returned (zcZ (zaj s.data.toList also.data.toList))∧Qb w w':=by
 by_cases hs:s.size≤16384
 ·have hd:zaj s.data.toList also.data.toList=rwS (zcb also.data.toList) 0 s.data.toList []:=by unfold zaj zfk;rw[if_neg (by rw[zaa];omega)]
  rw[hd]
  go_enter Tryz.func51,Tryz.ntmps51
  go_wp2_with fail
  go_loopw [6,7,8,9] (fun v i _ _ wr=>∃k:Nat,∃l,k≤s.size∧i=.int .i64 k∧zci wr w.heap.size v l∧l.length≤3*k∧Hid (rwS (zcb also.data.toList) 0 s.data.toList []=rwS (zcb also.data.toList) 0 (s.data.toList.drop k) l)∧Qb w wr) (fun _ i _ _ _=>s.size - (intOf i).toNat)
  case atStart=>exact⟨0,[],Nat.zero_le _,rfl,zci.nil _ _,Nat.zero_le _,Lib.hid rfl,Qb.refl w⟩
  case round=>
   obtain⟨k,l,hk,rfl,hrow,hlen,HR,hq⟩:=hrel
   have hB:w.heap.size≤wr.heap.size:=hq.size
   by_cases hlt:k<s.size
   ·by_cases hc:s[k]=37
    ·have h37:((s[k].toNat:Int) != 37)=false:=by rw[hc];rfl
     have HC:=Lib.hid hc
     clear hc
     rcases he:zbt (s.data.toList.drop k) with _|_
     ·have HE:=Lib.hid (ziT (zcb also.data.toList) s k l hlt HC.out he)
      go_wp2_with (go_at_call 74;refine(zdi s k hlt (by omega) HC.out _).mono ?_;rintro e w0 ⟨rfl,hq1⟩;have hrow0:=hrow.below hq1)
      go_ret2
      exact⟨by rw[HR.out,HE.out];rfl,hq.trans hq1⟩
     ·have HV:=Lib.hid (zjl he)
      have HE0:=Lib.hid he
      have h2:=zgb s k he
      rcases hu:zav (zok (s.data.toList.drop k)) with _|_
      ·have ha1:zcb also.data.toList l (zcn (s.data.toList.drop k)) true=(0,l++zc5 (zok (s.data.toList.drop k))):=by rw[←HV.out];exact zcM hu
       have HE:=Lib.hid (zg8 (zcb also.data.toList) s k l hlt HC.out he (by rw[ha1]))
       have HJ:=Lib.hid (zo4 (zcb also.data.toList) s (k+1) (k+3) (by omega) (l++zc5 (zok (s.data.toList.drop k))))
       have HA:=Lib.hid ha1
       have hsz:(S (zc5 (zok (s.data.toList.drop k)))).size≤3:=by rw[zac];exact Nat.le_refl _
       clear ha1
       go_wp2_with (first|(go_at_call 74;refine(zdi s k hlt (by omega) HC.out _).mono ?_;rintro e w0 ⟨rfl,hq1⟩;have hrow0:=hrow.below hq1)|(go_at_call 53;refine(zaY _ _).mono ?_;rintro e w' ⟨rfl,rfl⟩)|(go_at_call 75;refine(zd4 _ _).mono ?_;rintro e w3 ⟨rfl,hq3⟩;have hrow3:=hrow0.below hq3)|(at_builtin;refine zfO rfl (.tmp 56) (.tmp 58) rfl w.heap.size _ l rfl hrow3 _ rfl (by omega) (by have:=hq1.size;have:=hq3.size;omega) ?_;intro v1 w1 hr1 hb1))
       go_roundw
       case rel=>exact⟨k+3,_,by omega,by go_num,hr1,by simp[zc5];omega,Lib.hid (by rw[HR.out,HE.out,HA.out,←HJ.out]),Below.trans ((hq.trans hq1).trans hq3) hb1⟩
       case measure=>simp[intOf];omega
      ·have ha1:zcb also.data.toList l (zcn (s.data.toList.drop k)) true=(0,l++[zok (s.data.toList.drop k)]):=by
        rw[←HV.out];exact za1 (by rw[hu];rfl) (za8 hu)
       have HE:=Lib.hid (zg8 (zcb also.data.toList) s k l hlt HC.out he (by rw[ha1]))
       have HJ:=Lib.hid (zo4 (zcb also.data.toList) s (k+1) (k+3) (by omega) (l++[zok (s.data.toList.drop k)]))
       have HA:=Lib.hid ha1
       clear ha1
       go_wp2_with (first|(go_at_call 74;refine(zdi s k hlt (by omega) HC.out _).mono ?_;rintro e w0 ⟨rfl,hq1⟩;have hrow0:=hrow.below hq1)|(go_at_call 53;refine(zaY _ _).mono ?_;rintro e w' ⟨rfl,rfl⟩)|(at_builtin;refine zaP rfl (.tmp 52) (.tmp 54) rfl w.heap.size _ l [zok (s.data.toList.drop k)] rfl (hrow0.alloc _) _ _ _ rfl rfl (zi6 _ _) (by simp;omega) (by have:=hq1.size;simp;omega) ?_;intro v1 w1 hr1 hb1))
       go_roundw
       case rel=>exact⟨k+3,_,by omega,by go_num,hr1,by simp;omega,Lib.hid (by rw[HR.out,HE.out,HA.out,←HJ.out]),Below.trans ((hq.trans hq1).alloc _) hb1⟩
       case measure=>simp[intOf];omega
    ·have h37:((s[k].toNat:Int) != 37)=true:=by have:=ne37 hc;simpa using this
     have HC:=Lib.hid hc
     clear hc
     rcases hp:zaT s[k] also.data.toList with _|_
     ·have hu:zav s[k]=false:=by
       rcases hu:zav s[k] with _|_
       ·rfl
       ·rw[za8 hu] at hp;cases hp
      have hi:zbe s[k] also.data.toList=false:=by rw[←zhi hu HC.out];exact hp
      have ha1:zcb also.data.toList l s[k] false=(1,[]):=zfM rfl hp
      have HE:=Lib.hid (ze8 (zcb also.data.toList) s k l hlt HC.out (by rw[ha1];decide))
      have HA:=Lib.hid ha1
      clear ha1 hp
      go_wp2_with (first|(go_at_call 53;refine(zaY _ _).mono ?_;rintro e w' ⟨rfl,rfl⟩)|(go_at_call 49;refine(zb7 _ _ _ ha).mono ?_;rintro e w' ⟨rfl,rfl⟩))
      go_ret2
      exact⟨by rw[HR.out,HE.out,HA.out];rfl,hq⟩
     ·have ha1:zcb also.data.toList l s[k] false=(0,l++[s[k]]):=za1 rfl hp
      have HE:=Lib.hid (ziQ (zcb also.data.toList) s k l hlt HC.out (by rw[ha1]))
      have HA:=Lib.hid ha1
      clear ha1
      rcases hu:zav s[k] with _|_
      ·have hi:zbe s[k] also.data.toList=true:=by rw[←zhi hu HC.out];exact hp
       clear hp
       go_wp2_with (first|(go_at_call 53;refine(zaY _ _).mono ?_;rintro e w' ⟨rfl,rfl⟩)|(go_at_call 49;refine(zb7 _ _ _ ha).mono ?_;rintro e w' ⟨rfl,rfl⟩)|(at_builtin;refine zaP rfl (.tmp 36) (.tmp 40) rfl w.heap.size _ l [s[k]] rfl (hrow.alloc _) _ _ _ rfl rfl (zi6 _ _) (by simp;omega) (by simp;omega) ?_;intro v1 w1 hr1 hb1))
       go_roundw
       case rel=>exact⟨k+1,_,by omega,by go_num,hr1,by simp;omega,Lib.hid (by rw[HR.out,HE.out,HA.out,Nat.sub_self]),Below.trans (hq.alloc _) hb1⟩
       case measure=>simp[intOf];omega
      ·clear hp
       go_wp2_with (first|(go_at_call 53;refine(zaY _ _).mono ?_;rintro e w' ⟨rfl,rfl⟩)|(go_at_call 49;refine(zb7 _ _ _ ha).mono ?_;rintro e w' ⟨rfl,rfl⟩)|(at_builtin;refine zaP rfl (.tmp 36) (.tmp 40) rfl w.heap.size _ l [s[k]] rfl (hrow.alloc _) _ _ _ rfl rfl (zi6 _ _) (by simp;omega) (by simp;omega) ?_;intro v1 w1 hr1 hb1))
       go_roundw
       case rel=>exact⟨k+1,_,by omega,by go_num,hr1,by simp;omega,Lib.hid (by rw[HR.out,HE.out,HA.out,Nat.sub_self]),Below.trans (hq.alloc _) hb1⟩
       case measure=>simp[intOf];omega
   ·have HE:=Lib.hid (ziS (zcb also.data.toList) s k l 0 hlt)
    have hst:=ze9 hrow
    go_wp2_with fail
    go_ret2
    exact⟨by rw[HR.out,HE.out];rfl,hq⟩
 ·have hd:zaj s.data.toList also.data.toList=(5,[]):=by unfold zaj zfk;rw[if_pos (by rw[zaa];omega)]
  rw[hd]
  go_enter Tryz.func51,Tryz.ntmps51
  go_wp2_with fail
  go_ret2
  exact⟨rfl,Qb.refl _⟩
end Go.Proofs.YtnnipcgblooemaaGreatDoor
namespace Go.Proofs.YtnnipcgblooemaaGreatDoor
open Go.RowKit
theorem zit:∀n:Fin 16,zbn (zdp n.val)=true∧hvN (zdp n.val)=n.val∧zdp n.val≠37:=by decide
theorem zlE (c:UInt8) (r:List UInt8):zbt (zc5 c++r)=true∧zcn (zc5 c++r)=c:=by
 have hc:=c.toNat_lt
 have h1:=zit ⟨c.toNat / 16,by omega⟩
 have h2:=zit ⟨c.toNat % 16,by omega⟩
 simp only at h1 h2
 constructor
 ·show (zbn (zdp (c.toNat / 16))&&zbn (zdp (c.toNat % 16)))=true
  rw[h1.1,h2.1];rfl
 ·show UInt8.ofNat (16*hvN (zdp (c.toNat / 16))+hvN (zdp (c.toNat % 16)))=c
  rw[h1.2.1,h2.2.1,show 16*(c.toNat / 16)+c.toNat % 16=c.toNat from by omega]
  exact UInt8.ofNat_toNat
theorem zft (add:zh1) (c:UInt8) (r out:List UInt8) (o2:List UInt8) (h:add out c true=(0,o2)):rwS add 0 (zc5 c++r) out=rwS add 0 r o2:=by
 have h1:=zlE c r
 show rwS add 0 (37::([zdp (c.toNat / 16),zdp (c.toNat % 16)]++r)) out=_
 have e:(37::([zdp (c.toNat / 16),zdp (c.toNat % 16)]++r):List UInt8)=zc5 c++r:=rfl
 rw[rwS,if_pos rfl,e,if_pos h1.1,h1.2,h,if_pos rfl,zbH]
 rfl
theorem zdL (add:zh1) (c:UInt8) (r out:List UInt8) (o2:List UInt8) (hc:c≠37) (h:add out c false=(0,o2)):rwS add 0 ([c]++r) out=rwS add 0 r o2:=by
 show rwS add 0 (c::r) out=_
 rw[rwS,if_neg hc,h,if_pos rfl]
theorem zj7 {c:UInt8} {k:List UInt8} (h:zaT c k=true):c≠37:=by
 rintro rfl
 rw[zj8] at h;cases h
theorem zlb (add:zh1) (f:UInt8→List UInt8) (keep:List UInt8) (h1:∀out c,zaT c keep=true→add out c false=(0,out++f c)) (h2:∀out c,zaT c keep=false→add out c true=(0,out++f c)) :
  ∀(l r out:List UInt8),rwS add 0 (zbX l keep++r) out=rwS add 0 r (out++l.flatMap f)
 | [],r,out=>by simp[zbX]
 | c::l,r,out=>by
  have e:zbX (c::l) keep=(if zaT c keep=true then [c] else zc5 c)++zbX l keep:=rfl
  rw[e,List.append_assoc,List.flatMap_cons]
  rcases hp:zaT c keep with _|_
  ·rw[if_neg Bool.false_ne_true,zft add c _ out _ (h2 out c hp),zlb add f keep h1 h2 l r _,List.append_assoc]
  ·rw[if_pos rfl,zdL add c _ out _ (zj7 hp) (h1 out c hp),zlb add f keep h1 h2 l r _,List.append_assoc]
theorem zlA (l:List UInt8):l.flatMap (fun c=>[c])=l:=by simp
theorem dec_enc (l keep:List UInt8) (hl:l.length≤1000):zaR (zbX l keep)=(0,l):=by
 have hlen:=zc6 l keep
 unfold zaR zfk
 rw[if_neg (by omega),←List.append_nil (zbX l keep),zlb zcf (fun c=>[c]) keep (fun _ _ _=>rfl) (fun _ _ _=>rfl),zlA]
 rfl
theorem zcG (c:UInt8):zaT c []=zav c:=by unfold zaT;rw[zmX,Bool.and_false,Bool.or_false]
def Canon (also l y a:List UInt8):Prop :=
 (∀o r,rwS (zcb also) 0 (y++r) o=rwS (zcb also) 0 r (o++y))∧(∀o,rwS zcf 0 l o=(0,o++a))∧(∀o r,rwS zcf 0 (y++r) o=rwS zcf 0 r (o++a))∧y.length≤l.length
theorem zbK {c:UInt8} {t:List UInt8} (h:zbt (c::t)=true):∃a b r,t=a::b::r:=by
 match t,h with
 | a::b::r,_=>exact⟨a,b,r,rfl⟩
theorem zir {x:UInt8} (h:zav x=true):x≠37:=by
 rintro rfl
 rw[u37] at h;cases h
theorem zkb (also:List UInt8):∀(n:Nat) (l out x:List UInt8),l.length≤n→rwS (zcb also) 0 l out=(0,x)→∃y a,x=out++y∧Canon also l y a:=by
 intro n
 induction n with
 | zero=>
  intro l out x hl h
  have:l=[]:=List.eq_nil_of_length_eq_zero (by omega)
  subst this
  rw[rwS] at h
  obtain rfl:out=x:=by injection h
  exact⟨[],[],by simp,by simp,by intro o;rw[rwS,List.append_nil],by simp,Nat.le_refl _⟩
 | succ n ih=>
  intro l out x hl h
  cases l with
  | nil=>
   rw[rwS] at h
   obtain rfl:out=x:=by injection h
   exact⟨[],[],by simp,by simp,by intro o;rw[rwS,List.append_nil],by simp,Nat.le_refl _⟩
  | cons c t=>
   by_cases hc:c=37
   ·rcases he:zbt (c::t) with _|_
    ·rw[rwS,if_pos hc,if_neg (by rw[he];exact Bool.false_ne_true)] at h
     injection h with h1 _
     exact absurd h1 (by decide)
    ·obtain⟨a,b,r,rfl⟩:=zbK he
     have hd:∀o,rwS zcf 0 (c::a::b::r) o=rwS zcf 0 r (o++[zcn (c::a::b::r)]):=by
      intro o
      rw[rwS,if_pos hc,if_pos he]
      show (if (0:Int)=0 then rwS zcf 2 (a::b::r) _ else _)=_
      rw[if_pos rfl,zbH]
      rfl
     rcases hu:zav (zcn (c::a::b::r)) with _|_
     ·rw[rwS,if_pos hc,if_pos he,zcM hu,if_pos rfl,zbH] at h
      obtain⟨y,m,rfl,h1,h2,h3,h4⟩:=ih r _ x (by simp at hl ⊢;omega) h
      refine⟨zc5 (zcn (c::a::b::r))++y,zcn (c::a::b::r)::m,by simp,?_,?_,?_,?_⟩
      ·intro o r'
       rw[List.append_assoc,zft _ _ _ _ _ (zcM hu),h1,List.append_assoc]
      ·intro o
       rw[hd,h2,List.append_assoc];rfl
      ·intro o r'
       rw[List.append_assoc,zft zcf _ _ _ _ rfl,h3,List.append_assoc];rfl
      ·rw[List.length_append,zeR];simp;omega
     ·rw[rwS,if_pos hc,if_pos he,za1 (by rw[hu];rfl) (za8 hu),if_pos rfl,zbH] at h
      obtain⟨y,m,rfl,h1,h2,h3,h4⟩:=ih r _ x (by simp at hl ⊢;omega) h
      refine⟨[zcn (c::a::b::r)]++y,zcn (c::a::b::r)::m,by simp,?_,?_,?_,?_⟩
      ·intro o r'
       rw[List.append_assoc,zdL _ _ _ _ _ (zir hu) (za1 rfl (za8 hu)),h1,List.append_assoc]
      ·intro o
       rw[hd,h2,List.append_assoc];rfl
      ·intro o r'
       rw[List.append_assoc,zdL zcf _ _ _ _ (zir hu) rfl,h3,List.append_assoc];rfl
      ·simp;omega
   ·rcases hp:zaT c also with _|_
    ·rw[rwS,if_neg hc,zfM rfl hp,if_neg (by decide)] at h
     injection h with h1 _
     exact absurd h1 (by decide)
    ·rw[rwS,if_neg hc,za1 rfl hp,if_pos rfl] at h
     obtain⟨y,m,rfl,h1,h2,h3,h4⟩:=ih t _ x (by simp at hl;omega) h
     refine⟨[c]++y,c::m,by simp,?_,?_,?_,?_⟩
     ·intro o r'
      rw[List.append_assoc,zdL _ _ _ _ _ hc (za1 rfl hp),h1,List.append_assoc]
     ·intro o
      rw[rwS,if_neg hc]
      show (if (0:Int)=0 then rwS zcf 0 t _ else _)=_
      rw[if_pos rfl,h2]
      show (0,(o++[c])++m)=_
      rw[List.append_assoc];rfl
     ·intro o r'
      rw[List.append_assoc,zdL zcf _ _ _ _ hc rfl,h3,List.append_assoc];rfl
     ·simp;omega
theorem zbJ (l also x:List UInt8) (h:zaj l also=(0,x)):zaj x also=(0,x)∧(∃a,zaR l=(0,a)∧zaR x=(0,a))∧x.length≤l.length:=by
 unfold zaj zfk at h
 by_cases hlen:16384<l.length
 ·rw[if_pos hlen] at h
  injection h with h1 _
  exact absurd h1 (by decide)
 ·rw[if_neg hlen] at h
  obtain⟨y,a,rfl,h1,h2,h3,h4⟩:=zkb also l.length l [] x (Nat.le_refl _) h
  have e1:=h1 [] []
  have e3:=h3 [] []
  rw[List.append_nil,rwS,List.nil_append] at e1 e3
  refine⟨?_,⟨a,?_,?_⟩,h4⟩
  ·unfold zaj zfk;rw[if_neg (by omega),e1]
  ·unfold zaR zfk;rw[if_neg hlen,h2];rfl
  ·unfold zaR zfk;rw[if_neg (by omega),e3]
theorem zdg (add:zh1):∀(l out:List UInt8) (n:Nat),(rwS add n l out).1≠0→(rwS add n l out).2=[]
 | [],out,n=>by intro h;cases n<;>(rw[rwS] at h;exact absurd rfl h)
 | c::l,out,n+1=>by intro h;rw[rwS] at h ⊢;exact zdg add l out n h
 | c::l,out,0=>by
  intro h
  rw[rwS] at h ⊢
  split at h
  ·rename_i hc
   rw[if_pos hc]
   split at h
   ·rename_i he
    rw[if_pos he]
    split at h
    ·rename_i ha
     rw[if_pos ha];exact zdg add l _ 2 h
    ·rename_i ha
     rw[if_neg ha]
   ·rename_i he
    rw[if_neg he]
  ·rename_i hc
   rw[if_neg hc]
   split at h
   ·rename_i ha
    rw[if_pos ha];exact zdg add l _ 0 h
   ·rename_i ha
    rw[if_neg ha]
theorem zkc (l also:List UInt8) (h:(zaj l also).1≠0):(zaj l also).2=[]:=by
 unfold zaj zfk at h ⊢
 split
 ·rfl
 ·rename_i hl
  rw[if_neg hl] at h
  exact zdg _ _ _ _ h
end Go.Proofs.YtnnipcgblooemaaGreatDoor
namespace Go.Proofs.YtnnipcgblooemaaGreatDoor
def okB (also:List UInt8) (c:UInt8):Bool:=c==37||zbn c||zaT c also
theorem zhq (also:List UInt8):∀(n:Nat) (l out x:List UInt8),l.length≤n→rwS (zcb also) 0 l out=(0,x)→l.all (okB also)=true:=by
 intro n
 induction n with
 | zero=>
  intro l out x hl h
  have:l=[]:=List.eq_nil_of_length_eq_zero (by omega)
  subst this;rfl
 | succ n ih=>
  intro l out x hl h
  cases l with
  | nil=>rfl
  | cons c t=>
   by_cases hc:c=37
   ·rcases he:zbt (c::t) with _|_
    ·rw[rwS,if_pos hc,if_neg (by rw[he];exact Bool.false_ne_true)] at h
     injection h with h1 _
     exact absurd h1 (by decide)
    ·obtain⟨a,b,r,rfl⟩:=zbK he
     have hab:zbn a=true∧zbn b=true:=by
      have:(zbn a&&zbn b)=true:=he
      simpa using this
     have hr:∃o2,rwS (zcb also) 0 r o2=(0,x):=by
      rcases hu:zav (zcn (c::a::b::r)) with _|_
      ·rw[rwS,if_pos hc,if_pos he,zcM hu,if_pos rfl,zbH] at h;exact⟨_,h⟩
      ·rw[rwS,if_pos hc,if_pos he,za1 (by rw[hu];rfl) (za8 hu),if_pos rfl,zbH] at h;exact⟨_,h⟩
     obtain⟨o2,hr⟩:=hr
     have:=ih r o2 x (by simp at hl ⊢;omega) hr
     simp[okB,hc,hab.1,hab.2,this]
   ·rcases hp:zaT c also with _|_
    ·rw[rwS,if_neg hc,zfM rfl hp,if_neg (by decide)] at h
     injection h with h1 _
     exact absurd h1 (by decide)
    ·rw[rwS,if_neg hc,za1 rfl hp,if_pos rfl] at h
     have:=ih t _ x (by simp at hl;omega) h
     simp[okB,hp,this]
theorem zil {l also x:List UInt8} (h:zaj l also=(0,x)):l.all (okB also)=true:=by
 unfold zaj zfk at h
 split at h
 ·injection h with h1 _
  exact absurd h1 (by decide)
 ·exact zhq also l.length l [] x (Nat.le_refl _) h
theorem zeM {l also x:List UInt8} (h:zaj l also=(0,x)):l.length≤16384:=by
 unfold zaj zfk at h
 split at h
 ·injection h with h1 _
  exact absurd h1 (by decide)
 ·omega
theorem zcK {l also x:List UInt8} (h:zaj l also=(0,x)):x.all (okB also)=true:=zil (zbJ l also x h).1
theorem zaS (c:UInt8):∀(a b:List UInt8),c∉a→zar c (a++c::b)=(a,b,true)
 | [],b,_=>by simp[zar]
 | x::a,b,h=>by
  simp only[List.mem_cons,not_or] at h
  rw[List.cons_append,zcx,if_neg (fun e=>h.1 e.symm),zaS c a b h.2]
theorem zb3 (c:UInt8):∀(a:List UInt8),c∉a→zar c a=(a,[],false)
 | [],_=>rfl
 | x::a,h=>by
  simp only[List.mem_cons,not_or] at h
  rw[zcx,if_neg (fun e=>h.1 e.symm),zb3 c a h.2]
end Go.Proofs.YtnnipcgblooemaaGreatDoor
namespace Go.Proofs.YtnnipcgblooemaaGreatDoor
open Nat renaming reduceAdd → z6, reduceSub → z7, reduceLeDiff → z8, reduceLT → j6, reduceMul → j7, reduceEqDiff → j8
open Int renaming reduceToNat → j9, reduceAdd → x0, reduceSub → x5, reduceMul → x6, reduceNeg → x7, reduceLT → x8, reduceLE → x9, reduceEq → y3, reduceNe → y4
open Go.RowKit Sx
def zdY (h:List UInt8) (p:Int):AV:=.agg [.s h,.i .i64 p]
def zjf (h:List UInt8) (p:Int):List UInt8:=if p=0 then h else h++[58]++Lib.itoa p
theorem zje (h:List UInt8) (p:Int) (h0:-9223372036854775808≤p) (h1:p≤9223372036854775807):(zjf h p).length≤h.length+22:=by
 have:=Lib.itoa_length_le p h0 h1
 unfold zjf
 split
 ·omega
 ·simp only[List.length_append,List.length_cons,List.length_nil];omega
theorem hasB_idx (l:List UInt8) (c:UInt8):((zaA l [c]:Nat):Int)<l.length↔(zar c l).2.2=true:=by
 have h:=zeB c l
 constructor
 ·intro h1;rw[h.1 (by omega)]
 ·intro h1
  apply Classical.byContradiction
  intro h2
  rw[h.2 (by omega)] at h1;cases h1
theorem zmr (l:List UInt8):(zc1 l).2≤65535:=by
 unfold zc1
 split
 ·exact ze5 65535 l
 ·exact Nat.zero_le _
theorem hpE_port (l:List UInt8):(hpE l).2.2≤65535:=by
 have:=zmr (zar 58 l).2.1
 unfold hpE
 repeat' split
 all_goals simp only[Nat.zero_le]
 all_goals omega
section
variable [Tabs Tryz.prog] {objs:List OB} {K:List OB→AV→Prop}
theorem zmj (s:List UInt8) (hs:s.length≤1000000) (hk:K objs (.tup [.s (zaL s).2,.i .i64 (zaL s).1])):zad Tryz.prog 52 [.s s] objs K :=
 conv (vs:=[.string (S s)]) rfl rfl (fun w=>zdQ (S s) w (by rw[zac];exact hs)) hk
theorem rhPort_k (s:List UInt8) (hs:s.length≤maxLen) (hk:K objs (.tup [.i .i64 (zc1 s).2,.i .i64 (zc1 s).1])):zad Tryz.prog 113 [.s s] objs K :=
 zrv (vs:=[.string (S s)]) rfl rfl (fun w=>zpy (S s) w (by rw[zac];exact hs)) hk
theorem zmY (s:List UInt8) (hs:s.length≤maxLen) (hk:K objs (.tup [zdY (hpE s).2.1 (hpE s).2.2,.i .i64 (hpE s).1])):zad Tryz.prog 132 [.s s] objs K :=
 conv (vs:=[.string (S s)]) rfl rfl (fun w=>zrN (S s) w (by rw[zac];exact hs)) hk
theorem zhk (s also:List UInt8) (hk:K objs (.tup [.s (zaj s also).2,.i .i64 (zaj s also).1])):zad Tryz.prog 118 [.s s,.s also] objs K :=
 conv (vs:=[.string (S s),.string (S also)]) rfl rfl (fun w=>zdR (S s) (S also) w) hk
theorem ziV (s also:List UInt8) (ha:also.length≤maxLen) (hk:K objs (.tup [.s (zaj s also).2,.i .i64 (zaj s also).1])):zad Tryz.prog 51 [.s s,.s also] objs K :=
 conv (vs:=[.string (S s),.string (S also)]) rfl rfl (fun w=>zdO (S s) (S also) w (by rw[zac];exact ha)) hk
theorem zhm (s:List UInt8) (hk:K objs (.tup [.s (zaR s).2,.i .i64 (zaR s).1])):zad Tryz.prog 131 [.s s] objs K :=
 conv (vs:=[.string (S s)]) rfl rfl (fun w=>zhn (S s) w) hk
theorem zda (s:List UInt8) (hk:K objs (.tup [.s (zaR s).2,.i .i64 (zaR s).1])):zad Tryz.prog 54 [.s s] objs K :=
 conv (vs:=[.string (S s)]) rfl rfl (fun w=>zcF (S s) w) hk
theorem zj9 (s keep:List UInt8) (hs:s.length≤300000000) (hk:K objs (.s (zbX s keep))):zad Tryz.prog 22 [.s s,.s keep] objs K :=
 conv (vs:=[.string (S s),.string (S keep)]) rfl rfl (fun w=>zhl (S s) (S keep) w (by rw[zac];exact hs)) hk
theorem znY (s keep:List UInt8) (hs:s.length≤300000000) (ha:keep.length≤maxLen) (hk:K objs (.s (zbX s keep))):zad Tryz.prog 57 [.s s,.s keep] objs K :=
 conv (vs:=[.string (S s),.string (S keep)]) rfl rfl (fun w=>zhe (S s) (S keep) w (by rw[zac];exact hs) (by rw[zac];exact ha)) hk
theorem zqU [Pow Tryz.prog] (h:List UInt8) (p:Int) (hh:h.length≤200000000000000) (h0:-9223372036854775808≤p) (h1:p≤9223372036854775807) (hk:K objs (.s (zjf h p))):zad Tryz.prog 45 [zdY h p] objs K:=by
 refine zaU is_host_Format rfl fun C _=>?_
 have hl:=Lib.itoa_length_le p h0 h1
 unfold zjf at hk
 by_cases hp:p=0
 ·rw[if_pos hp] at hk
  simp only[zdY,hp,c_host_Format,sxZ,z6,z7,z8,j6,j7,j8,j9,x0,x5,x6,x7,x8,x9,y3,y4,reduceCtorEq,↓reduceIte]
  exact hk
 ·rw[if_neg hp] at hk
  simp only[zdY,hp,c_host_Format,sxZ,z6,z7,z8,j6,j7,j8,j9,x0,x5,x6,x7,x8,x9,y3,y4,reduceCtorEq,↓reduceIte]
  refine⟨by omega,?_⟩
  refine zbM (itoa_k p h0 h1 ⟨rfl,rfl⟩) ?_
  simp only[sxZ,z6,z7,z8,j6,j7,j8,j9,x0,x5,x6,x7,x8,x9,y3,y4,reduceCtorEq,↓reduceIte]
  exact⟨by omega,hk⟩
theorem zha (p:Int) (h0:-9223372036854775808≤p) (h1:p≤9223372036854775807) (hk:K objs (.s (Lib.itoa p))):zad Tryz.prog 48 [.i .i64 p] objs K:=by
 refine zaU is_ref05_Decimal rfl fun C _=>?_
 unfold Lib.itoa at hk
 by_cases hp:p<0
 ·rw[if_pos hp] at hk
  have e1:IntKind.u64.wrap (IntKind.u64.wrap (0 - (p+1))+1)=((p.natAbs:Nat):Int):=by
   rw[wrap_u64 (0 - (p+1)) (by omega) (by omega),wrap_u64 _ (by omega) (by omega)];omega
  simp only[hp,c_ref05_Decimal,sxZ,z6,z7,z8,j6,j7,j8,j9,x0,x5,x6,x7,x8,x9,y3,y4,reduceCtorEq,↓reduceIte]
  refine⟨⟨by omega,by omega⟩,⟨by omega,by omega⟩,?_⟩
  rw[e1]
  refine zaf (zib p.natAbs (by omega) ?_)
  have hd:=Lib.nDigits_le20 p.natAbs (by omega)
  have hl:=Lib.decDigits_length p.natAbs
  simp only[sxZ,z6,z7,z8,j6,j7,j8,j9,x0,x5,x6,x7,x8,x9,y3,y4,reduceCtorEq,↓reduceIte]
  exact⟨by omega,hk⟩
 ·rw[if_neg hp] at hk
  have e1:IntKind.u64.wrap p=((p.toNat:Nat):Int):=by
   rw[wrap_u64 p (by omega) (by omega)];omega
  simp only[hp,c_ref05_Decimal,sxZ,z6,z7,z8,j6,j7,j8,j9,x0,x5,x6,x7,x8,x9,y3,y4,reduceCtorEq,↓reduceIte]
  rw[e1]
  refine zaf (zib p.toNat (by omega) ?_)
  simp only[sxZ,z6,z7,z8,j6,j7,j8,j9,x0,x5,x6,x7,x8,x9,y3,y4,reduceCtorEq,↓reduceIte]
  exact hk
theorem zn0 (h:List UInt8) (p:Int) (hh:h.length≤200000000000000) (h0:-9223372036854775808≤p) (h1:p≤9223372036854775807) (hk:K objs (.s (zjf h p))):zad Tryz.prog 24 [zdY h p] objs K:=by
 refine zaU is_ref05_Format rfl fun C _=>?_
 have hl:=Lib.itoa_length_le p h0 h1
 unfold zjf at hk
 by_cases hp:p=0
 ·rw[if_pos hp] at hk
  simp only[zdY,hp,c_ref05_Format,sxZ,z6,z7,z8,j6,j7,j8,j9,x0,x5,x6,x7,x8,x9,y3,y4,reduceCtorEq,↓reduceIte]
  exact hk
 ·rw[if_neg hp] at hk
  simp only[zdY,hp,c_ref05_Format,sxZ,z6,z7,z8,j6,j7,j8,j9,x0,x5,x6,x7,x8,x9,y3,y4,reduceCtorEq,↓reduceIte]
  refine⟨by omega,?_⟩
  refine zbM (zha p h0 h1 ⟨rfl,rfl⟩) ?_
  simp only[sxZ,z6,z7,z8,j6,j7,j8,j9,x0,x5,x6,x7,x8,x9,y3,y4,reduceCtorEq,↓reduceIte]
  exact⟨by omega,hk⟩
theorem zjX (s:List UInt8) (hs:s.length≤1000000) (hk:K objs (.tup [zdY (hpE s).2.1 (hpE s).2.2,.i .i64 (hpE s).1])):zad Tryz.prog 83 [.s s] objs K:=by
 have hm:maxLen=2 ^ 63 - 1:=rfl
 have e443:((443:Nat):Int)=443:=rfl
 have ez:((0:Nat):Int)=0:=rfl
 refine zaU is_ref05_Parse rfl fun C _=>?_
 simp only[zdY,hpE] at hk
 simp only[c_ref05_Parse,sxZ,z6,z7,z8,j6,j7,j8,j9,x0,x5,x6,x7,x8,x9,y3,y4,reduceCtorEq,↓reduceIte]
 refine zaf (za3 s [58] (by omega) (by simp;omega) ?_)
 have c58:=zeB 58 s
 by_cases h58:zaA s [58]<s.length
 ·rw[c58.1 h58] at hk
  simp only[sxZ,z6,z7,z8,j6,j7,j8,j9,x0,x5,x6,x7,x8,x9,y3,y4,reduceCtorEq,↓reduceIte]
  refine⟨⟨by omega,by omega⟩,?_⟩
  have hl:(s.take (zaA s [58])).length≤s.length:=by rw[List.length_take];omega
  have hd:(s.drop (zaA s [58]+1)).length≤s.length:=by rw[List.length_drop];omega
  refine zaf (zmj _ (by omega) ?_)
  simp only[sxZ,z6,z7,z8,j6,j7,j8,j9,x0,x5,x6,x7,x8,x9,y3,y4,reduceCtorEq,↓reduceIte]
  by_cases h1:(zaL (s.take (zaA s [58]))).1=0
  ·have hne:¬((zaA s [58]:Nat):Int)=((s.length:Nat):Int):=by omega
   simp only[h1,hne,ez,sxZ,z6,z7,z8,j6,j7,j8,j9,x0,x5,x6,x7,x8,x9,y3,y4,reduceCtorEq,↓reduceIte] at hk ⊢
   refine⟨⟨by omega,by omega⟩,⟨by omega,by omega⟩,?_⟩
   refine zaf (rhPort_k _ (by omega) ?_)
   simp only[sxZ,z6,z7,z8,j6,j7,j8,j9,x0,x5,x6,x7,x8,x9,y3,y4,reduceCtorEq,↓reduceIte]
   by_cases h2:(zc1 (s.drop (zaA s [58]+1))).1=0
   ·by_cases h3:(zc1 (s.drop (zaA s [58]+1))).2=443
    ·simp only[h2,h3,e443,ez,sxZ,z6,z7,z8,j6,j7,j8,j9,x0,x5,x6,x7,x8,x9,y3,y4,reduceCtorEq,↓reduceIte] at hk ⊢
     exact hk
    ·have h3':¬((((zc1 (s.drop (zaA s [58]+1))).2:Nat):Int)=443):=by omega
     simp only[h2,h3,h3',sxZ,z6,z7,z8,j6,j7,j8,j9,x0,x5,x6,x7,x8,x9,y3,y4,reduceCtorEq,↓reduceIte] at hk ⊢
     exact hk
   ·simp only[h2,ez,sxZ,z6,z7,z8,j6,j7,j8,j9,x0,x5,x6,x7,x8,x9,y3,y4,reduceCtorEq,↓reduceIte] at hk ⊢
    exact hk
  ·simp only[h1,ez,sxZ,z6,z7,z8,j6,j7,j8,j9,x0,x5,x6,x7,x8,x9,y3,y4,reduceCtorEq,↓reduceIte] at hk ⊢
   exact hk
 ·have hx:((zaA s [58]:Nat):Int)=((s.length:Nat):Int):=by have:=zjc s [58];omega
  rw[c58.2 h58] at hk
  simp only[hx,sxZ,z6,z7,z8,j6,j7,j8,j9,x0,x5,x6,x7,x8,x9,y3,y4,reduceCtorEq,↓reduceIte]
  refine⟨⟨by omega,by omega⟩,?_⟩
  refine zaf (zmj _ (by omega) ?_)
  by_cases h1:(zaL s).1=0
  ·simp only[h1,ez,sxZ,z6,z7,z8,j6,j7,j8,j9,x0,x5,x6,x7,x8,x9,y3,y4,reduceCtorEq,↓reduceIte] at hk ⊢
   exact hk
  ·simp only[h1,ez,sxZ,z6,z7,z8,j6,j7,j8,j9,x0,x5,x6,x7,x8,x9,y3,y4,reduceCtorEq,↓reduceIte] at hk ⊢
   exact hk
end
end Go.Proofs.YtnnipcgblooemaaGreatDoor
namespace Go.Proofs.YtnnipcgblooemaaGreatDoor
theorem zhs (c x:UInt8):∀l:List UInt8,x∈l→x=c∨∃p∈zah c l,x∈p
 | [],h=>by cases h
 | y::t,h=>by
  obtain⟨p,ps,e⟩:=zaG c t
  rw[zaE,e]
  by_cases hy:y=c
  ·rw[if_pos hy]
   rcases List.mem_cons.1 h with rfl|h
   ·exact .inl hy
   ·rcases zhs c x t h with h|⟨q,hq,hx⟩
    ·exact .inl h
    ·exact .inr ⟨q,by rw[←e];exact List.mem_cons_of_mem _ hq,hx⟩
  ·rw[if_neg hy]
   rcases List.mem_cons.1 h with rfl|h
   ·exact .inr ⟨_,List.mem_cons_self ..,List.mem_cons_self ..⟩
   ·rcases zhs c x t h with h|⟨q,hq,hx⟩
    ·exact .inl h
    ·rw[e] at hq
     rcases List.mem_cons.1 hq with rfl|hq
     ·exact .inr ⟨_,List.mem_cons_self ..,List.mem_cons_of_mem _ hx⟩
     ·exact .inr ⟨q,List.mem_cons_of_mem _ hq,hx⟩
theorem zjr {l:List UInt8} (h:zcV l=true):l.all zal=true:=by
 unfold zcV at h
 have h1:=of_decide_eq_true h
 unfold zaF at h1
 split at h1
 ·rename_i h2
  exact(zeU h2).2
 ·rename_i h2;exact absurd h1 h2
theorem zf9 {h:List UInt8} (hh:(zaL h).1=0):∀x∈h,x=46∨lbB x=true:=by
 intro x hx
 unfold zaL at hh
 split at hh
 ·cases hh
 ·split at hh
  ·cases hh
  ·split at hh
   ·rename_i h1 h2 h3
    rcases zhs 46 x h hx with h4|⟨p,hp,hxp⟩
    ·exact .inl h4
    ·rw[Bool.or_eq_true] at h3
     rcases h3 with h3|h3
     ·unfold zcz at h3
      simp only[Bool.and_eq_true,List.all_eq_true] at h3
      have:=h3.1 p hp
      unfold zbv at this
      simp only[Bool.and_eq_true,List.all_eq_true] at this
      exact .inr (this.2 x hxp)
     ·unfold zcs zk2 at h3
      simp only[Bool.and_eq_true,List.all_eq_true] at h3
      have:=List.all_eq_true.1 (zjr (h3.2 p hp)) x hxp
      exact .inr (by unfold lbB;rw[this];simp)
   ·cases hh
theorem hb256:∀n:Fin 256,(lbB (UInt8.ofNat n.val)=true∨UInt8.ofNat n.val=46)→zbe (UInt8.ofNat n.val) [58,64,47,63,35]=false:=by decide +kernel
theorem zmW (c:UInt8) (h:c=46∨lbB c=true):zbe c [58,64,47,63,35]=false:=by
 have:=hb256 ⟨c.toNat,UInt8.toNat_lt c⟩
 simp only[UInt8.ofNat_toNat] at this
 exact this h.symm
theorem host_not {h:List UInt8} (hh:(zaL h).1=0) (c:UInt8) (hc:zbe c [58,64,47,63,35]=true):c∉h:=by
 intro hm
 have:=zmW c (zf9 hh c hm)
 rw[hc] at this;cases this
theorem zi9 (n:Nat):Lib.itoa (n:Int)=Lib.decDigits n:=by
 unfold Lib.itoa
 rw[if_neg (by omega)];rfl
theorem zpL (n:Nat) (h0:n≠0) (h1:n≤65535):zc1 (Lib.decDigits n)=(0,n):=by
 unfold zc1
 rw[znS n 65535 h1,if_pos ⟨rfl,h0⟩]
theorem hp_fmt {h:List UInt8} {n:Nat} (hh:zaL h=(0,h)) (h1:n≤65535) (h2:n≠443):hpE (zjf h n)=(0,h,n):=by
 have hh0:(zaL h).1=0:=by rw[hh]
 have h58:(58:UInt8)∉h:=host_not hh0 58 (by decide)
 unfold zjf
 by_cases h0:n=0
 ·subst h0
  rw[if_pos (show ((0:Nat):Int)=0 from rfl)]
  unfold hpE
  rw[zb3 58 h h58]
  simp only
  rw[hh]
  simp
 ·rw[if_neg (by omega),zi9]
  unfold hpE
  have:h++[58]++Lib.decDigits n=h++58::Lib.decDigits n:=by simp
  rw[this,zaS 58 h _ h58]
  simp only
  rw[hh,zpL n h0 h1,if_neg (by simp),if_neg (by simp),if_neg (by simp),if_neg h2]
theorem zjd {l h:List UInt8} {n:Nat} (hl:hpE l=(0,h,n)):zaL h=(0,h)∧n≤65535∧n≠443∧h.length≤253∧h.length≤l.length:=by
 have hcl:=(za5 58 l).1
 unfold hpE at hl
 split at hl
 ·rename_i h1;injection hl with h2 _;exact absurd h2 h1
 ·rename_i h1
  simp only[Decidable.not_not] at h1
  have hho:zaL (zar 58 l).1=(0,(zaL (zar 58 l).1).2):=by rw[←h1]
  obtain⟨k1,k2,k3,_⟩:=zga hho
  split at hl
  ·injection hl with _ hl
   injection hl with e1 e2
   subst e1 e2
   exact⟨k1,by omega,by omega,k3,by omega⟩
  ·split at hl
   ·rename_i h2;injection hl with h3 _;exact absurd h3 h2
   ·injection hl with _ hl
    injection hl with e1 e2
    subst e1
    have hp:=zmr (zar 58 l).2.1
    refine⟨k1,?_,?_,k3,by omega⟩
    ·rw[←e2];split<;>omega
    ·rw[←e2];split<;>omega
theorem hp_err {l:List UInt8} (h:(hpE l).1≠0):(hpE l).2=([],0):=by
 unfold hpE at h ⊢
 split
 ·rfl
 ·rename_i h1;rw[if_neg h1] at h
  split
  ·rename_i h2;rw[if_pos h2] at h;exact absurd rfl h
  ·rename_i h2;rw[if_neg h2] at h
   split
   ·rfl
   ·rename_i h3;rw[if_neg h3] at h;exact absurd rfl h
end Go.Proofs.YtnnipcgblooemaaGreatDoor
namespace Go.Proofs.YtnnipcgblooemaaGreatDoor
open Go.RowKit Sx
def zfD (u:UriP):List UInt8:=(if u.hs=true then u.scheme++[58] else [])++(if u.ha=true then [47,47]++u.auth else [])++u.path++(if u.hq=true then [63]++u.query else [])++(if u.hf=true then [35]++u.frag else [])
section
variable [Tabs Tryz.prog] {objs:List OB} {K:List OB→AV→Prop}
end
end Go.Proofs.YtnnipcgblooemaaGreatDoor
namespace Go.Proofs.YtnnipcgblooemaaGreatDoor
open Go.RowKit Sx
def keepL (p:List UInt8):List UInt8:=p.take (Lib.lastIndexByte (S p) 47+1).toNat
def mergeU (b:UriP) (r:List UInt8):List UInt8:=if b.ha=true∧b.path=[] then 47::r else keepL b.path++r
section
variable [Tabs Tryz.prog] {objs:List OB} {K:List OB→AV→Prop}
end
end Go.Proofs.YtnnipcgblooemaaGreatDoor
namespace Go.Proofs.YtnnipcgblooemaaGreatDoor
open Go.RowKit Sx
def zgH (b r:UriP):UriP :=
 if r.hs=true then { r with path:=zaV r.path }
 else if r.ha=true then { r with scheme:=b.scheme,hs:=b.hs,path:=zaV r.path }
 else if r.path=[] then { scheme:=b.scheme,hs:=b.hs,auth:=b.auth,ha:=b.ha,path:=b.path,query:=if r.hq=true then r.query else b.query,hq:=if r.hq=true then r.hq else b.hq,frag:=r.frag,hf:=r.hf }
 else { scheme:=b.scheme,hs:=b.hs,auth:=b.auth,ha:=b.ha,path:=if r.path.head? = some 47 then zaV r.path else zaV (mergeU b r.path),query:=r.query,hq:=r.hq,frag:=r.frag,hf:=r.hf }
section
variable [Tabs Tryz.prog] {objs:List OB} {K:List OB→AV→Prop}
end
end Go.Proofs.YtnnipcgblooemaaGreatDoor
namespace Go.Proofs.YtnnipcgblooemaaGreatDoor
theorem zed (c:UInt8):∀l:List UInt8,l=(zar c l).1++(if (zar c l).2.2=true then [c]++(zar c l).2.1 else [])
 | []=>rfl
 | x::t=>by
  have ih:=zed c t
  rw[zcx]
  by_cases hx:x=c
  ·subst hx;simp
  ·rw[if_neg hx]
   show x::t=x::((zar c t).1++_)
   rw[←ih]
theorem zru (c:UInt8) (l:List UInt8):(zar c l).1.length≤l.length:=by
 have h:=congrArg List.length (zed c l)
 rw[List.length_append] at h
 omega
theorem sch_join (l:List UInt8) (h:(zar 58 (zau l)).2.2=true):l=(zar 58 (zau l)).1++[58]++l.drop ((zar 58 (zau l)).1.length+1):=by
 have sx:=zfU l
 by_cases hk:∃hk:zaA l [58,47]<l.length,l[zaA l [58,47]]=58
 ·obtain⟨h1,h2⟩:=hk
  obtain⟨q1,q2,_⟩:=sx.1 h1 h2
  rw[q2]
  conv=>lhs;rw[←List.take_append_drop (zaA l [58,47]) l,List.drop_eq_getElem_cons h1,h2]
  rw[←q1];simp
 ·have:=sx.2 (fun h1 h2=>hk ⟨h1,h2⟩)
  rw[h] at this;cases this
theorem zqR (r:List UInt8):r=(if zbN r=true then [47,47]++zbh r else [])++zbC r:=by
 by_cases h:zbN r=true
 ·have ea:zbh r=zau (r.drop 2):=by unfold zbh;rw[if_pos h]
  have eb:zbC r=(r.drop 2).drop (zbh r).length:=by unfold zbC;rw[if_pos h]
  rw[if_pos h,eb]
  have hp:[47,47]++r.drop 2=r:=by
   have:=List.isPrefixOf_iff_prefix.1 (show Lib.hasPrefix r [47,47]=true from h)
   obtain⟨t,rfl⟩:=this
   simp
  have hf:=(zaI (r.drop 2)).1
  have:zbh r++(r.drop 2).drop (zbh r).length=r.drop 2:=by
   rw[ea]
   conv=>lhs;lhs;rw[hf]
   exact List.take_append_drop _ _
  rw[List.append_assoc,this,hp]
 ·unfold zbC
  rw[if_neg h,if_neg h];simp
theorem zh5 (s:List UInt8) (h:(zaw s).1=0):zfD (zaw s).2=s:=by
 unfold zaw at h ⊢
 split
 ·rename_i h1;rw[if_pos h1] at h;cases h
 ·rename_i h1
  rw[if_neg h1] at h
  split
  ·rename_i h2;rw[if_pos h2] at h;cases h
  ·rename_i h2
   clear h h2 h1
   unfold zfD
   simp only
   have e1:=zed 35 s
   have e2:=zed 63 (zar 35 s).1
   have e3:=zqR (zd9 s)
   have e4:zcB s=(if (zbB s).2.2=true then (zbB s).1++[58] else [])++zd9 s:=by
    unfold zd9
    by_cases h:(zbB s).2.2=true
    ·rw[if_pos h,if_pos h];exact sch_join (zcB s) h
    ·rw[if_neg h,if_neg h];rfl
   have e5:(if (zbB s).2.2=true then (if (zbB s).2.2=true then (zbB s).1 else [])++[58] else [])=(if (zbB s).2.2=true then (zbB s).1++[58] else []):=by split<;>rfl
   rw[e5,List.append_assoc (if (zbB s).2.2=true then (zbB s).1++[58] else []),←e3,←e4]
   show (zar 63 (zar 35 s).1).1++_++_=s
   rw[←e2,←e1]
theorem zoY (s:List UInt8) (h:(zaw s).1≠0):(zaw s).2=zfP:=by
 unfold zaw at h ⊢
 split
 ·rfl
 ·rename_i h1;rw[if_neg h1] at h
  split
  ·rfl
  ·rename_i h2;rw[if_neg h2] at h;exact absurd rfl h
end Go.Proofs.YtnnipcgblooemaaGreatDoor
namespace Go.Proofs.YtnnipcgblooemaaGreatDoor
open Nat renaming reduceAdd → z6, reduceSub → z7, reduceLeDiff → z8, reduceLT → j6, reduceMul → j7, reduceEqDiff → j8
open Int renaming reduceToNat → j9, reduceAdd → x0, reduceSub → x5, reduceMul → x6, reduceNeg → x7, reduceLT → x8, reduceLE → x9, reduceEq → y3, reduceNe → y4
structure UrlP where
 host:List UInt8
 port:Int
 path:List UInt8
 query:List UInt8
 frag:List UInt8
 hq:Bool
 hf:Bool
def zdt:UrlP:=⟨[],0,[],[],[],false,false⟩
def zct:List UInt8:=[104,116,116,112,115]
def zap:List UInt8:=[33,36,38,39,40,41,42,43,44,59,61,58,64,47]
def zag:List UInt8:=[33,36,38,39,40,41,42,43,44,59,61,58,64,47,63]
def zd2 (u:UrlP):List UInt8:=if u.hq=true then u.path++[63]++u.query else u.path
def zcA (u:UrlP):List UInt8:=[104,116,116,112,115,58,47,47]++zjf u.host u.port++zd2 u++(if u.hf=true then [35]++u.frag else [])
def zay (p:UriP):Int×List UInt8×Nat :=
 if p.hs=false then (60,[],0)
 else if eqL p.scheme zct=false then (60,[],0)
 else if p.ha=false then (71,[],0)
 else if (zar 64 p.auth).2.2=true then (70,[],0)
 else hpE p.auth
def zcD (l:List UInt8):List UInt8:=if zaV l=[] then [47] else zaV l
def zb9 (p:UriP):Int×UrlP :=
 if (zaj p.path zap).1≠0 then ((zaj p.path zap).1,zdt)
 else if (zaj p.query zag).1≠0 then ((zaj p.query zag).1,zdt)
 else if (zaj p.frag zag).1≠0 then ((zaj p.frag zag).1,zdt)
 else (0,⟨[],0,zcD (zaj p.path zap).2,(zaj p.query zag).2,(zaj p.frag zag).2,p.hq,p.hf⟩)
def zhR (h:List UInt8) (n:Nat) (u:UrlP):UrlP:=⟨h,n,u.path,u.query,u.frag,u.hq,u.hf⟩
def webF (u:UrlP):Int×UrlP:=if 4096<(zcA u).length then (5,zdt) else (0,u)
def webO (p:UriP):Int×UrlP :=
 if (zay p).1≠0 then ((zay p).1,zdt)
 else if (zb9 p).1≠0 then ((zb9 p).1,zdt)
 else webF (zhR (zay p).2.1 (zay p).2.2 (zb9 p).2)
def zfj (s:List UInt8):Int×UrlP :=
 if 4096<s.length then (5,zdt)
 else if (zaw s).1≠0 then ((zaw s).1,zdt)
 else webO (zaw s).2
instance:DecidableEq UrlP:=fun a b=>
 decidable_of_iff (a.host=b.host∧a.port=b.port∧a.path=b.path∧a.query=b.query∧a.frag=b.frag∧a.hq=b.hq∧a.hf=b.hf) (by
  cases a;cases b;simp)
def zcU (u:UrlP):Bool:=decide ((zfj (zcA u)).1=0)&&decide ((zfj (zcA u)).2=u)
def relW (b:UrlP) (r:List UInt8):Int×UrlP :=
 if zcU b=false then (8,zdt)
 else if (zaw r).1≠0 then ((zaw r).1,zdt)
 else if eqL (zgH (zaw (zcA b)).2 (zaw r).2).scheme zct=false then (253,zdt)
 else zfj (zfD (zgH (zaw (zcA b)).2 (zaw r).2))
theorem zh4 (s:List UInt8):(zaw s).2.scheme.length≤s.length∧(zaw s).2.auth.length≤s.length∧(zaw s).2.path.length≤s.length∧(zaw s).2.query.length≤s.length∧(zaw s).2.frag.length≤s.length:=by
 by_cases h:(zaw s).1=0
 ·have hj:=congrArg List.length (zh5 s h)
  have hsch:(zaw s).2.hs=false→(zaw s).2.scheme=[]:=by
   unfold zaw
   split
   ·intro _;rfl
   ·split
    ·intro _;rfl
    ·intro h1;simp only at h1 ⊢;rw[if_neg (by rw[h1];exact Bool.false_ne_true)]
  have hau:(zaw s).2.ha=false→(zaw s).2.auth=[]:=by
   unfold zaw
   split
   ·intro _;rfl
   ·split
    ·intro _;rfl
    ·intro h1;simp only at h1 ⊢;unfold zbh;rw[if_neg (by rw[h1];exact Bool.false_ne_true)]
  have hqu:(zaw s).2.hq=false→(zaw s).2.query=[]:=by
   unfold zaw
   split
   ·intro _;rfl
   ·split
    ·intro _;rfl
    ·intro h1;simp only at h1 ⊢;exact((zcc 63 _).2.2 h1).2
  have hfr:(zaw s).2.hf=false→(zaw s).2.frag=[]:=by
   unfold zaw
   split
   ·intro _;rfl
   ·split
    ·intro _;rfl
    ·intro h1;simp only at h1 ⊢;exact((zcc 35 _).2.2 h1).2
  revert hj hsch hau hqu hfr
  generalize (zaw s).2=u
  obtain⟨a,b,c,d,e,b1,b2,b3,b4⟩:=u
  intro hj hsch hau hqu hfr
  simp only[zfD] at hj hsch hau hqu hfr ⊢
  simp only[List.length_append] at hj
  have e1:a.length≤(if b1=true then a++[58] else []).length:=by
   cases b1
   ·rw[hsch rfl];simp
   ·simp
  have e2:b.length≤(if b2=true then [47,47]++b else []).length:=by
   cases b2
   ·rw[hau rfl];simp
   ·simp;omega
  have e3:d.length≤(if b3=true then [63]++d else []).length:=by
   cases b3
   ·rw[hqu rfl];simp
   ·simp
  have e4:e.length≤(if b4=true then [35]++e else []).length:=by
   cases b4
   ·rw[hfr rfl];simp
   ·simp
  omega
 ·rw[zoY s h];simp[zfP]
theorem zdF (l also:List UInt8):(zaj l also).2.length≤l.length∧(zaj l also).2.length≤16384:=by
 by_cases h:(zaj l also).1=0
 ·have e:zaj l also=(0,(zaj l also).2):=by rw[←h]
  have h1:=(zbJ l also _ e).2.2
  have h2:=zeM e
  omega
 ·rw[zkc l also h];simp
theorem zro:∀(n:Nat) (i o:List UInt8),(zjn n i o).length≤o.length+i.length:=by
 intro n
 induction n with
 | zero=>intro i o;show o.length≤_;omega
 | succ n ih=>
  intro i o
  unfold zjn
  split
  ·omega
  ·have:=ih (zax i o).1 (zax i o).2
   have h2:=zaJ (i:=i) (o:=o)
   omega
theorem zpv (l:List UInt8):(zaV l).length≤l.length:=by
 have h:=zro l.length l []
 rw[List.length_nil,Nat.zero_add] at h
 exact h
theorem zfd (p:UriP):(zay p).2.2≤65535:=by
 have:=hpE_port p.auth
 unfold zay
 repeat' split
 all_goals first
  | exact this
  | exact Nat.zero_le _
theorem hpE_len (l:List UInt8):(hpE l).2.1.length≤253:=by
 have hh:∀q:List UInt8,(zaL q).2.length≤253:=by
  intro q
  unfold zaL
  repeat' split
  all_goals first
   | exact Nat.zero_le _
   | (show (zbm q).length≤253;rw[zfe];omega)
 unfold hpE
 repeat' split
 all_goals first
  | exact hh _
  | simp
theorem zf0 (p:UriP):(zay p).2.1.length≤253:=by
 have:=hpE_len p.auth
 unfold zay
 repeat' split
 all_goals first
  | exact this
  | simp
theorem zk9 (l:List UInt8):(zcD l).length≤l.length+1:=by
 have:=zpv l
 unfold zcD
 split
 ·simp
 ·omega
theorem zhc (p:UriP):(zb9 p).2.path.length≤16385∧(zb9 p).2.query.length≤16384∧(zb9 p).2.frag.length≤16384:=by
 have h1:=zdF p.path zap
 have h2:=zdF p.query zag
 have h3:=zdF p.frag zag
 have h4:=zk9 (zaj p.path zap).2
 unfold zb9
 repeat' split
 all_goals simp[zdt]
 omega
theorem zfT (u:UrlP):(zd2 u).length≤u.path.length+u.query.length+1:=by
 unfold zd2
 split
 ·simp only[List.length_append,List.length_cons,List.length_nil];omega
 ·omega
theorem fmtW_len (u:UrlP) (h0:-9223372036854775808≤u.port) (h1:u.port≤9223372036854775807):(zcA u).length≤u.host.length+u.path.length+u.query.length+u.frag.length+40:=by
 have h2:=zje u.host u.port h0 h1
 have h3:=zfT u
 unfold zcA
 simp only[List.length_append,List.length_cons,List.length_nil]
 split
 ·simp only[List.length_append,List.length_cons,List.length_nil];omega
 ·simp only[List.length_nil];omega
end Go.Proofs.YtnnipcgblooemaaGreatDoor
namespace Go.Proofs.YtnnipcgblooemaaGreatDoor
open Nat renaming reduceAdd → z6, reduceSub → z7, reduceLeDiff → z8, reduceLT → j6, reduceMul → j7, reduceEqDiff → j8
open Int renaming reduceToNat → j9, reduceAdd → x0, reduceSub → x5, reduceMul → x6, reduceNeg → x7, reduceLT → x8, reduceLE → x9, reduceEq → y3, reduceNe → y4
open Go.RowKit Sx
def zaQ (u:UrlP):AV:=.agg [.s u.host,.i .i64 u.port,.s u.path,.s u.query,.s u.frag,.b u.hq,.b u.hf]
theorem zoM:zaQ zdt=.agg [.s [],.i .i64 0,.s [],.s [],.s [],.b false,.b false]:=rfl
theorem has_cut (l:List UInt8) (c:UInt8):decide (0≤Lib.indexByte l c)=(zar c l).2.2:=by
 rcases zbs c l with ⟨h1,h2,_⟩|⟨k,h1,_,h2,_⟩
 ·rw[h1,h2];rfl
 ·rw[h1,h2];simp
section
variable [Tabs Tryz.prog] {objs:List OB} {K:List OB→AV→Prop}
theorem zoK (u:UrlP) (h1:u.path.length≤200000000000000) (h2:u.query.length≤200000000000000) (hk:K objs (.s (zd2 u))):zad Tryz.prog 47 [zaQ u] objs K:=by
 refine zaU is_weburl_Target rfl fun C _=>?_
 unfold zd2 at hk
 by_cases h:u.hq=true
 all_goals simp only[h,if_true,if_false,Bool.false_eq_true] at hk
 all_goals simp only[zaQ,h,c_weburl_Target,sxZ,z6,z7,z8,j6,j7,j8,j9,x0,x5,x6,x7,x8,x9,y3,y4,reduceCtorEq,↓reduceIte]
 all_goals first
  | exact hk
  | exact⟨by omega,by omega,hk⟩
theorem znW (u:UrlP) (h1:u.path.length≤200000000000000) (h2:u.query.length≤200000000000000) (hk:K objs (.s (zd2 u))):zad Tryz.prog 26 [zaQ u] objs K:=by
 refine zaU is_ref07_Target rfl fun C _=>?_
 unfold zd2 at hk
 by_cases h:u.hq=true
 all_goals simp only[h,if_true,if_false,Bool.false_eq_true] at hk
 all_goals simp only[zaQ,h,c_ref07_Target,sxZ,z6,z7,z8,j6,j7,j8,j9,x0,x5,x6,x7,x8,x9,y3,y4,reduceCtorEq,↓reduceIte]
 all_goals first
  | exact hk
  | exact⟨by omega,by omega,hk⟩
theorem zjD (u:UrlP) (hk:K objs (zdY u.host u.port)):zad Tryz.prog 46 [zaQ u] objs K:=by
 refine zaU is_weburl_Origin rfl fun C _=>?_
 simp only[zaQ,c_weburl_Origin,sxZ,z6,z7,z8,j6,j7,j8,j9,x0,x5,x6,x7,x8,x9,y3,y4,reduceCtorEq,↓reduceIte]
 exact hk
theorem znX (u:UrlP) (hk:K objs (zdY u.host u.port)):zad Tryz.prog 25 [zaQ u] objs K:=by
 refine zaU is_ref07_Origin rfl fun C _=>?_
 simp only[zaQ,c_ref07_Origin,sxZ,z6,z7,z8,j6,j7,j8,j9,x0,x5,x6,x7,x8,x9,y3,y4,reduceCtorEq,↓reduceIte]
 exact hk
def zcm (u:UrlP):Prop:=u.host.length≤1000000∧-9223372036854775808≤u.port∧u.port≤9223372036854775807∧u.path.length≤1000000∧u.query.length≤1000000∧u.frag.length≤1000000
theorem zdJ [Pow Tryz.prog] (u:UrlP) (hu:zcm u) (hk:K objs (.s (zcA u))):zad Tryz.prog 23 [zaQ u] objs K:=by
 obtain⟨h1,h2,h3,h4,h5,h6⟩:=hu
 have t1:=zje u.host u.port h2 h3
 have t2:=zfT u
 refine zaU is_weburl_Format rfl fun C _=>?_
 unfold zcA at hk
 simp only[zaQ,c_weburl_Format,sxZ,z6,z7,z8,j6,j7,j8,j9,x0,x5,x6,x7,x8,x9,y3,y4,reduceCtorEq,↓reduceIte]
 refine zbM (zjD u ⟨rfl,rfl⟩) ?_
 simp only[zdY,sxZ,z6,z7,z8,j6,j7,j8,j9,x0,x5,x6,x7,x8,x9,y3,y4,reduceCtorEq,↓reduceIte]
 refine zbM (zqU u.host u.port (by omega) h2 h3 ⟨rfl,rfl⟩) ?_
 simp only[sxZ,z6,z7,z8,j6,j7,j8,j9,x0,x5,x6,x7,x8,x9,y3,y4,reduceCtorEq,↓reduceIte]
 refine⟨by omega,?_⟩
 refine zbM (zoK u (by omega) (by omega) ⟨rfl,rfl⟩) ?_
 simp only[sxZ,z6,z7,z8,j6,j7,j8,j9,x0,x5,x6,x7,x8,x9,y3,y4,reduceCtorEq,↓reduceIte]
 by_cases h:u.hf=true
 ·simp only[h,if_true,if_false,Bool.false_eq_true,List.append_nil] at hk
  simp only[h,sxZ,z6,z7,z8,j6,j7,j8,j9,x0,x5,x6,x7,x8,x9,y3,y4,reduceCtorEq,↓reduceIte]
  exact⟨by omega,by omega,by omega,by simpa using hk⟩
 ·simp only[h,if_true,if_false,Bool.false_eq_true,List.append_nil] at hk
  simp only[h,sxZ,z6,z7,z8,j6,j7,j8,j9,x0,x5,x6,x7,x8,x9,y3,y4,reduceCtorEq,↓reduceIte]
  exact⟨by omega,by simpa using hk⟩
theorem zcE (u:UrlP) (hu:zcm u) (hk:K objs (.s (zcA u))):zad Tryz.prog 13 [zaQ u] objs K:=by
 obtain⟨h1,h2,h3,h4,h5,h6⟩:=hu
 have t1:=zje u.host u.port h2 h3
 have t2:=zfT u
 refine zaU is_ref07_Format rfl fun C _=>?_
 unfold zcA at hk
 simp only[zaQ,c_ref07_Format,sxZ,z6,z7,z8,j6,j7,j8,j9,x0,x5,x6,x7,x8,x9,y3,y4,reduceCtorEq,↓reduceIte]
 refine zbM (znX u ⟨rfl,rfl⟩) ?_
 simp only[zdY,sxZ,z6,z7,z8,j6,j7,j8,j9,x0,x5,x6,x7,x8,x9,y3,y4,reduceCtorEq,↓reduceIte]
 refine zbM (zn0 u.host u.port (by omega) h2 h3 ⟨rfl,rfl⟩) ?_
 simp only[sxZ,z6,z7,z8,j6,j7,j8,j9,x0,x5,x6,x7,x8,x9,y3,y4,reduceCtorEq,↓reduceIte]
 refine⟨by omega,?_⟩
 refine zbM (znW u (by omega) (by omega) ⟨rfl,rfl⟩) ?_
 simp only[sxZ,z6,z7,z8,j6,j7,j8,j9,x0,x5,x6,x7,x8,x9,y3,y4,reduceCtorEq,↓reduceIte]
 by_cases h:u.hf=true
 ·simp only[h,if_true,if_false,Bool.false_eq_true,List.append_nil] at hk
  simp only[h,sxZ,z6,z7,z8,j6,j7,j8,j9,x0,x5,x6,x7,x8,x9,y3,y4,reduceCtorEq,↓reduceIte]
  exact⟨by omega,by omega,by omega,by simpa using hk⟩
 ·simp only[h,if_true,if_false,Bool.false_eq_true,List.append_nil] at hk
  simp only[h,sxZ,z6,z7,z8,j6,j7,j8,j9,x0,x5,x6,x7,x8,x9,y3,y4,reduceCtorEq,↓reduceIte]
  exact⟨by omega,by simpa using hk⟩
theorem zgi (s:List UInt8) (c:UInt8) (hk:K objs (.b (zar c s).2.2)):zad Tryz.prog 150 [.s s,.s [c]] objs K:=by
 rw[←has_cut] at hk
 exact conv (vs:=[.string (S s),.string (S [c])]) rfl rfl (fun w=>(Tryz.strings_Contains_one (S s) c w).mono fun e w' ⟨h1,h2⟩=>⟨h1,Qb.rev h2⟩) hk
theorem znN (p:UriP) (h1:p.scheme.length≤1000000) (h2:p.auth.length≤1000000) (hk:K objs (.tup [zdY (zay p).2.1 (zay p).2.2,.i .i64 (zay p).1])):zad Tryz.prog 124 [zbz p] objs K:=by
 have hm:maxLen=2 ^ 63 - 1:=rfl
 refine zaU is_weburl_parseOrigin rfl fun C _=>?_
 unfold zay at hk
 by_cases c1:p.hs=true
 ·by_cases c2:eqL p.scheme zct=true
  ·by_cases c3:p.ha=true
   ·by_cases c4:(zar 64 p.auth).2.2=true
    ·simp only[c1,c2,c3,c4,if_true,if_false,Bool.true_eq_false,zdY] at hk
     simp only[zbz,c1,c3,c_weburl_parseOrigin,sxZ,z6,z7,z8,j6,j7,j8,j9,x0,x5,x6,x7,x8,x9,y3,y4,reduceCtorEq,↓reduceIte]
     refine zaf (zgS p.scheme zct (by omega) (by decide) ?_)
     simp only[c2,sxZ,z6,z7,z8,j6,j7,j8,j9,x0,x5,x6,x7,x8,x9,y3,y4,reduceCtorEq,↓reduceIte]
     refine zaf (zgi p.auth 64 ?_)
     simp only[c4,sxZ,z6,z7,z8,j6,j7,j8,j9,x0,x5,x6,x7,x8,x9,y3,y4,reduceCtorEq,↓reduceIte]
     exact hk
    ·simp only[c1,c2,c3,c4,if_true,if_false,Bool.true_eq_false,zdY] at hk
     simp only[zbz,c1,c3,c_weburl_parseOrigin,sxZ,z6,z7,z8,j6,j7,j8,j9,x0,x5,x6,x7,x8,x9,y3,y4,reduceCtorEq,↓reduceIte]
     refine zaf (zgS p.scheme zct (by omega) (by decide) ?_)
     simp only[c2,sxZ,z6,z7,z8,j6,j7,j8,j9,x0,x5,x6,x7,x8,x9,y3,y4,reduceCtorEq,↓reduceIte]
     refine zaf (zgi p.auth 64 ?_)
     simp only[c4,sxZ,z6,z7,z8,j6,j7,j8,j9,x0,x5,x6,x7,x8,x9,y3,y4,reduceCtorEq,↓reduceIte]
     refine zaf (zmY p.auth (by omega) ?_)
     simp only[zdY,sxZ,z6,z7,z8,j6,j7,j8,j9,x0,x5,x6,x7,x8,x9,y3,y4,reduceCtorEq,↓reduceIte]
     exact hk
   ·simp only[c1,c2,c3,if_true,if_false,Bool.true_eq_false,zdY] at hk
    simp only[zbz,c1,c3,c_weburl_parseOrigin,sxZ,z6,z7,z8,j6,j7,j8,j9,x0,x5,x6,x7,x8,x9,y3,y4,reduceCtorEq,↓reduceIte]
    refine zaf (zgS p.scheme zct (by omega) (by decide) ?_)
    simp only[c2,sxZ,z6,z7,z8,j6,j7,j8,j9,x0,x5,x6,x7,x8,x9,y3,y4,reduceCtorEq,↓reduceIte]
    exact hk
  ·simp only[c1,c2,if_true,if_false,Bool.true_eq_false,zdY] at hk
   simp only[zbz,c1,c_weburl_parseOrigin,sxZ,z6,z7,z8,j6,j7,j8,j9,x0,x5,x6,x7,x8,x9,y3,y4,reduceCtorEq,↓reduceIte]
   refine zaf (zgS p.scheme zct (by omega) (by decide) ?_)
   simp only[c2,sxZ,z6,z7,z8,j6,j7,j8,j9,x0,x5,x6,x7,x8,x9,y3,y4,reduceCtorEq,↓reduceIte]
   exact hk
 ·simp only[c1,if_true,if_false,zdY] at hk
  simp only[zbz,c1,c_weburl_parseOrigin,sxZ,z6,z7,z8,j6,j7,j8,j9,x0,x5,x6,x7,x8,x9,y3,y4,reduceCtorEq,↓reduceIte]
  exact hk
theorem wRest_k (p:UriP) (hk:K objs (.tup [zaQ (zb9 p).2,.i .i64 (zb9 p).1])):zad Tryz.prog 125 [zbz p] objs K:=by
 refine zaU is_weburl_parseRest rfl fun C _=>?_
 have n1:=zdF p.path zap
 unfold zb9 at hk
 simp only[zbz,c_weburl_parseRest,sxZ,z6,z7,z8,j6,j7,j8,j9,x0,x5,x6,x7,x8,x9,y3,y4,reduceCtorEq,↓reduceIte]
 refine zaf (zhk p.path zap ?_)
 simp only[sxZ,z6,z7,z8,j6,j7,j8,j9,x0,x5,x6,x7,x8,x9,y3,y4,reduceCtorEq,↓reduceIte]
 by_cases c1:(zaj p.path zap).1=0
 ·simp only[c1,sxZ,z6,z7,z8,j6,j7,j8,j9,x0,x5,x6,x7,x8,x9,y3,y4,reduceCtorEq,↓reduceIte] at hk ⊢
  refine zaf (uDots_k _ (by omega) ?_)
  have hs:zcD (zaj p.path zap).2=if zaV (zaj p.path zap).2=[] then [47] else zaV (zaj p.path zap).2:=rfl
  by_cases c0:zaV (zaj p.path zap).2=[]
  all_goals simp only[c0,sxZ,z6,z7,z8,j6,j7,j8,j9,x0,x5,x6,x7,x8,x9,y3,y4,reduceCtorEq,↓reduceIte] at hs
  all_goals rw[hs] at hk
  all_goals simp only[c0,sxZ,z6,z7,z8,j6,j7,j8,j9,x0,x5,x6,x7,x8,x9,y3,y4,reduceCtorEq,↓reduceIte]
  all_goals refine zaf (zhk p.query zag ?_)
  all_goals simp only[sxZ,z6,z7,z8,j6,j7,j8,j9,x0,x5,x6,x7,x8,x9,y3,y4,reduceCtorEq,↓reduceIte]
  all_goals by_cases c2:(zaj p.query zag).1=0
  all_goals simp only[c2,sxZ,z6,z7,z8,j6,j7,j8,j9,x0,x5,x6,x7,x8,x9,y3,y4,reduceCtorEq,↓reduceIte] at hk ⊢
  all_goals first
   | exact hk
   |refine zaf (zhk p.frag zag ?_)
    simp only[sxZ,z6,z7,z8,j6,j7,j8,j9,x0,x5,x6,x7,x8,x9,y3,y4,reduceCtorEq,↓reduceIte]
    by_cases c3:(zaj p.frag zag).1=0
    all_goals simp only[c3,sxZ,z6,z7,z8,j6,j7,j8,j9,x0,x5,x6,x7,x8,x9,y3,y4,reduceCtorEq,↓reduceIte] at hk ⊢
    all_goals exact hk
 ·simp only[c1,sxZ,z6,z7,z8,j6,j7,j8,j9,x0,x5,x6,x7,x8,x9,y3,y4,reduceCtorEq,↓reduceIte] at hk ⊢
  exact hk
theorem zlY [Pow Tryz.prog] (s:List UInt8) (hs:s.length≤maxLen) (hk:K objs (.tup [zaQ (zfj s).2,.i .i64 (zfj s).1])):zad Tryz.prog 96 [.s s] objs K:=by
 have hm:maxLen=2 ^ 63 - 1:=rfl
 refine zaU is_weburl_Parse rfl fun C _=>?_
 unfold zfj webO at hk
 by_cases c0:(4096:Int)<↑s.length
 ·have c0':4096<s.length:=by omega
  simp only[c0',if_true,zoM] at hk
  simp only[c0,c_weburl_Parse,sxZ,z6,z7,z8,j6,j7,j8,j9,x0,x5,x6,x7,x8,x9,y3,y4,reduceCtorEq,↓reduceIte]
  exact hk
 ·have c0':¬4096<s.length:=by omega
  simp only[c0',if_false] at hk
  simp only[c0,c_weburl_Parse,sxZ,z6,z7,z8,j6,j7,j8,j9,x0,x5,x6,x7,x8,x9,y3,y4,reduceCtorEq,↓reduceIte]
  refine zaf (uSplit_k _ ?_)
  have sl:=zh4 s
  have op:=zfd (zaw s).2
  have ol:=zf0 (zaw s).2
  have rl:=zhc (zaw s).2
  generalize hp:(zaw s).2=p at *
  by_cases c1:(zaw s).1=0
  ·simp only[c1,zbz,sxZ,z6,z7,z8,j6,j7,j8,j9,x0,x5,x6,x7,x8,x9,y3,y4,reduceCtorEq,↓reduceIte] at hk ⊢
   refine zaf (znN p (by omega) (by omega) ?_)
   simp only[sxZ,z6,z7,z8,j6,j7,j8,j9,x0,x5,x6,x7,x8,x9,y3,y4,reduceCtorEq,↓reduceIte]
   by_cases c2:(zay p).1=0
   ·simp only[c2,zdY,zbz,sxZ,z6,z7,z8,j6,j7,j8,j9,x0,x5,x6,x7,x8,x9,y3,y4,reduceCtorEq,↓reduceIte] at hk ⊢
    refine zaf (wRest_k p ?_)
    by_cases c3:(zb9 p).1=0
    ·have hsh:zcm (zhR (zay p).2.1 (zay p).2.2 (zb9 p).2):=⟨by show (zay p).2.1.length≤_;omega,by show _≤(((zay p).2.2:Nat):Int);omega,by show (((zay p).2.2:Nat):Int)≤_;omega,by show (zb9 p).2.path.length≤_;omega,by show (zb9 p).2.query.length≤_;omega,by show (zb9 p).2.frag.length≤_;omega⟩
     simp only[c3,sxZ,z6,z7,z8,j6,j7,j8,j9,x0,x5,x6,x7,x8,x9,y3,y4,reduceCtorEq,↓reduceIte] at hk
     simp only[c3,zaQ,sxZ,z6,z7,z8,j6,j7,j8,j9,x0,x5,x6,x7,x8,x9,y3,y4,reduceCtorEq,↓reduceIte]
     refine zaf (zdJ (zhR (zay p).2.1 (zay p).2.2 (zb9 p).2) hsh ?_)
     by_cases c4:4096<(zcA (zhR (zay p).2.1 (zay p).2.2 (zb9 p).2)).length
     ·rw[webF,if_pos c4] at hk
      have c4':(4096:Int)<((zcA (zhR (zay p).2.1 (zay p).2.2 (zb9 p).2)).length:Nat):=by omega
      simp only[zaQ,zdt,sxZ,z6,z7,z8,j6,j7,j8,j9,x0,x5,x6,x7,x8,x9,y3,y4,reduceCtorEq,↓reduceIte] at hk
      simp only[c4',sxZ,z6,z7,z8,j6,j7,j8,j9,x0,x5,x6,x7,x8,x9,y3,y4,reduceCtorEq,↓reduceIte]
      exact hk
     ·rw[webF,if_neg c4] at hk
      have c4':¬(4096:Int)<((zcA (zhR (zay p).2.1 (zay p).2.2 (zb9 p).2)).length:Nat):=by omega
      simp only[zaQ,zhR,sxZ,z6,z7,z8,j6,j7,j8,j9,x0,x5,x6,x7,x8,x9,y3,y4,reduceCtorEq,↓reduceIte] at hk
      simp only[c4',sxZ,z6,z7,z8,j6,j7,j8,j9,x0,x5,x6,x7,x8,x9,y3,y4,reduceCtorEq,↓reduceIte]
      exact hk
    ·simp only[c3,zaQ,zdt,sxZ,z6,z7,z8,j6,j7,j8,j9,x0,x5,x6,x7,x8,x9,y3,y4,reduceCtorEq,↓reduceIte] at hk ⊢
     exact hk
   ·simp only[c2,zdY,zaQ,zdt,sxZ,z6,z7,z8,j6,j7,j8,j9,x0,x5,x6,x7,x8,x9,y3,y4,reduceCtorEq,↓reduceIte] at hk ⊢
    exact hk
  ·simp only[c1,zbz,zaQ,zdt,sxZ,z6,z7,z8,j6,j7,j8,j9,x0,x5,x6,x7,x8,x9,y3,y4,reduceCtorEq,↓reduceIte] at hk ⊢
   exact hk
end
end Go.Proofs.YtnnipcgblooemaaGreatDoor
namespace Go.Proofs.YtnnipcgblooemaaGreatDoor
def idB (c:UInt8):Bool:=za4 c||zal c||zbe c [46,45,95]
def zbw:List UInt8:=[46,45,95,58]
def meB (c:UInt8):Bool:=zal c||(decide (97≤c.toNat)&&decide (c.toNat≤122))
def zbP (l:List UInt8):Bool:=l.all meB&&!l.isEmpty
def zk1 (c:UInt8) (new s:List UInt8):List UInt8:=s.flatMap fun x=>if x=c then new else [x]
def zcO (s:List UInt8):List UInt8:=zk1 126 [37,55,69] s
def ibB (c:UInt8):Bool:=c==37||idB c||c==58
def idE (l:List UInt8):Int×List UInt8 :=
 if (zaR l).1≠0 then ((zaR l).1,[])
 else if l.all ibB=false then (1,[])
 else if l=[]∨l.getLast? = some 58 then (3,[])
 else if (zaj l zbw).1≠0 then ((zaj l zbw).1,[])
 else (0,zcO (zaj l zbw).2)
def zbF:List UInt8:=[100,105,100,58]
def zca (s:List UInt8):Int×List UInt8×List UInt8 :=
 if 4096<s.length then (5,[],[])
 else if Lib.hasPrefix s zbF=false then (60,[],[])
 else if (zar 58 (s.drop 4)).2.2=false then (6,[],[])
 else if zbP (zar 58 (s.drop 4)).1=false then (100,[],[])
 else if (idE (zar 58 (s.drop 4)).2.1).1≠0 then ((idE (zar 58 (s.drop 4)).2.1).1,[],[])
 else (0,(zar 58 (s.drop 4)).1,(idE (zar 58 (s.drop 4)).2.1).2)
structure DidU where
 meth:List UInt8
 id:List UInt8
 path:List UInt8
 query:List UInt8
 frag:List UInt8
 hq:Bool
 hf:Bool
instance:DecidableEq DidU:=fun a b=>
 decidable_of_iff (a.meth=b.meth∧a.id=b.id∧a.path=b.path∧a.query=b.query∧a.frag=b.frag∧a.hq=b.hq∧a.hf=b.hf) (by
  cases a;cases b;simp)
def didZ:DidU:=⟨[],[],[],[],[],false,false⟩
def zgv (s:List UInt8):List UInt8:=zau (zcB s)
def didUE (s:List UInt8):Int×DidU :=
 if 4096<s.length then (5,didZ)
 else if (zca (zgv s)).1≠0 then ((zca (zgv s)).1,didZ)
 else if (zaj ((zcB s).drop (zgv s).length) zap).1≠0 then ((zaj ((zcB s).drop (zgv s).length) zap).1,didZ)
 else if (zaj (zar 63 (zar 35 s).1).2.1 zag).1≠0 then ((zaj (zar 63 (zar 35 s).1).2.1 zag).1,didZ)
 else if (zaj (zar 35 s).2.1 zag).1≠0 then ((zaj (zar 35 s).2.1 zag).1,didZ)
 else (0,⟨(zca (zgv s)).2.1,(zca (zgv s)).2.2,(zaj ((zcB s).drop (zgv s).length) zap).2,(zaj (zar 63 (zar 35 s).1).2.1 zag).2,(zaj (zar 35 s).2.1 zag).2,(zar 63 (zar 35 s).1).2.2,(zar 35 s).2.2⟩)
def zbo (m i:List UInt8):List UInt8:=zbF++m++[58]++i
def zjg (u:DidU):List UInt8:=zbo u.meth u.id++u.path++(if u.hq=true then [63]++u.query else [])++(if u.hf=true then [35]++u.frag else [])
theorem zdl (c:UInt8):∀s:List UInt8,Lib.index s [c]=Lib.indexByte s c
 | []=>rfl
 | b::l=>by
  have ih:=zdl c l
  unfold Lib.index Lib.indexByte
  rw[ih]
  by_cases h:b=c
  ·subst h;simp
  ·have h':¬c=b:=fun e=>h e.symm
   simp[h,h']
theorem zfx (c:UInt8) (new:List UInt8):∀s:List UInt8,c∉s→zk1 c new s=s
 | [],_=>rfl
 | x::s,h=>by
  simp only[List.mem_cons,not_or] at h
  unfold zk1
  rw[List.flatMap_cons,if_neg (fun e=>h.1 e.symm)]
  show [x]++zk1 c new s=_
  rw[zfx c new s h.2];rfl
theorem zfb (c:UInt8) (new a b:List UInt8):zk1 c new (a++b)=zk1 c new a++zk1 c new b:=by simp[zk1]
theorem zj1 (c:UInt8) (new:List UInt8):∀(n:Nat) (s:List UInt8),s.length≤n→Lib.replaceK [c] new (Lib.count s [c]) s=zk1 c new s:=by
 intro n
 induction n with
 | zero=>
  intro s hs
  obtain rfl:s=[]:=List.eq_nil_of_length_eq_zero (by omega)
  rfl
 | succ n ih=>
  intro s hs
  rcases zbs c s with ⟨h1,_,h2⟩|⟨k,h1,h2,_,h3⟩
  ·rw[Lib.count_miss (by rw[zdl];exact h1),zfx c new s h2];rfl
  ·have hi:Lib.index s [c]=k:=by rw[zdl];exact h1
   rw[Lib.count_hit (by simp) hi,Nat.add_comm,Lib.replaceK_hit _ _ _ _ _ hi]
   have:=ih (s.drop (k+[c].length)) (by rw[List.length_drop];simp;omega)
   rw[this]
   have hk:s[k]=c:=by rw[List.getElem?_eq_getElem h2] at h3;injection h3
   have hpre:c∉s.take k:=by
    intro hm
    obtain⟨j,hj,hjc⟩:=List.mem_iff_getElem.1 hm
    have hj':j<k:=by rw[List.length_take] at hj;omega
    have:=(Lib.indexByte_some h1).2 j hj'
    rw[List.getElem_take] at hjc
    exact this (by rw[List.getElem?_eq_getElem (by omega),hjc])
   conv=>rhs;rw[←List.take_append_drop k s,List.drop_eq_getElem_cons h2,hk,zfb,zfx c new _ hpre]
   show _=s.take k++zk1 c new ([c]++s.drop (k+1))
   rw[zfb]
   simp[zk1]
theorem zhT (c:UInt8) (new s:List UInt8) (h:new≠[c]):Lib.replaceAll s [c] new=zk1 c new s:=by
 unfold Lib.replaceAll Lib.replace
 rw[if_neg (by simp;exact fun e=>h e.symm)]
 unfold Lib.replaceNum
 rw[if_pos (.inl (by decide))]
 exact zj1 c new s.length s (Nat.le_refl _)
theorem zkR (c:UInt8) (s:List UInt8):Lib.count s [c]≤s.length+1:=Lib.count_le s [c]
theorem zfR (s:List UInt8):(zcO s).length≤3*s.length:=by
 induction s with
 | nil=>exact Nat.le_refl _
 | cons x s ih=>
  unfold zcO zk1 at ih ⊢
  rw[List.flatMap_cons,List.length_append,List.length_cons]
  split<;>simp only[List.length_cons,List.length_nil]<;>omega
def zbf (l:List UInt8):List UInt8:=l.flatMap fun c=>if idB c=true then [c] else zc5 c
def zbG (p:List UInt8):List UInt8:=zbf (zaR p).2
def jnc (ps:List (List UInt8)):List UInt8:=ps.flatMap fun q=>58::zbG q
theorem id256:∀n:Fin 256,(idB (UInt8.ofNat n.val)=true→zaT (UInt8.ofNat n.val) zbw=true∧UInt8.ofNat n.val≠126∧UInt8.ofNat n.val≠58∧UInt8.ofNat n.val≠37) ∧
  (zav (UInt8.ofNat n.val)=true→UInt8.ofNat n.val≠126→idB (UInt8.ofNat n.val)=true)∧(zav (UInt8.ofNat n.val)=false→idB (UInt8.ofNat n.val)=false) ∧
  ((zc5 (UInt8.ofNat n.val)).all (fun c=>c != 126))=true∧(zbn (UInt8.ofNat n.val)=true→UInt8.ofNat n.val≠58∧idB (UInt8.ofNat n.val)=true):=by decide +kernel
theorem zd8 (c:UInt8):(idB c=true→zaT c zbw=true∧c≠126∧c≠58∧c≠37)∧(zav c=true→c≠126→idB c=true)∧(zav c=false→idB c=false)∧(zc5 c).all (fun c=>c != 126)=true∧(zbn c=true→c≠58∧idB c=true):=by
 have:=id256 ⟨c.toNat,UInt8.toNat_lt c⟩
 simpa using this
theorem zcX (a b:List UInt8):zcO (a++b)=zcO a++zcO b:=zfb _ _ a b
theorem zfQ {c:UInt8} (h:c≠126):zcO [c]=[c]:=by simp[zcO,zk1,h]
theorem znP (c:UInt8):zcO (zc5 c)=zc5 c:=zfx _ _ _ (fun hm=>by
 have:=List.all_eq_true.1 (zd8 c).2.2.2.1 126 hm
 simp at this)
theorem zcu (c:UInt8) (l:List UInt8):zbf (c::l)=(if idB c=true then [c] else zc5 c)++zbf l:=by simp[zbf]
theorem zh9:∀(n:Nat) (l o:List UInt8),l.length≤n→(rwS zcf 0 l o).1=(rwS zcf 0 l []).1∧((rwS zcf 0 l []).1=0→(rwS zcf 0 l o).2=o++(rwS zcf 0 l []).2):=by
 intro n
 induction n with
 | zero=>
  intro l o hl
  obtain rfl:l=[]:=List.eq_nil_of_length_eq_zero (by omega)
  simp[rwS]
 | succ n ih=>
  intro l o hl
  cases l with
  | nil=>simp[rwS]
  | cons c t=>
   by_cases hc:c=37
   ·rcases he:zbt (c::t) with _|_
    ·simp[rwS,hc,he,show zbt (37::t)=false from by rw[←hc];exact he]
    ·obtain⟨a,b,r,rfl⟩:=zbK he
     have hd:∀o,rwS zcf 0 (c::a::b::r) o=rwS zcf 0 r (o++[zcn (c::a::b::r)]):=by
      intro o
      rw[rwS,if_pos hc,if_pos he]
      show (if (0:Int)=0 then rwS zcf 2 (a::b::r) _ else _)=_
      rw[if_pos rfl,zbH]
      rfl
     rw[hd,hd]
     have i1:=ih r (o++[zcn (c::a::b::r)]) (by simp at hl ⊢;omega)
     have i2:=ih r ([]++[zcn (c::a::b::r)]) (by simp at hl ⊢;omega)
     refine⟨by rw[i1.1,i2.1],fun h=>?_⟩
     rw[i2.1] at h
     rw[i1.2 h,i2.2 h];simp
   ·have hd:∀o,rwS zcf 0 (c::t) o=rwS zcf 0 t (o++[c]):=by
     intro o
     rw[rwS,if_neg hc]
     show (if (0:Int)=0 then rwS zcf 0 t _ else _)=_
     rw[if_pos rfl];rfl
    rw[hd,hd]
    have i1:=ih t (o++[c]) (by simp at hl;omega)
    have i2:=ih t ([]++[c]) (by simp at hl;omega)
    refine⟨by rw[i1.1,i2.1],fun h=>?_⟩
    rw[i2.1] at h
    rw[i1.2 h,i2.2 h];simp
theorem zo7 {c:UInt8} {t:List UInt8} (hc:c=37) (a b:UInt8) (r:List UInt8) (ht:t=a::b::r) (he:zbt (c::t)=true) (o:List UInt8):rwS zcf 0 (c::t) o=rwS zcf 0 r (o++[zcn (c::t)]):=by
 subst ht
 rw[rwS,if_pos hc,if_pos he]
 show (if (0:Int)=0 then rwS zcf 2 (a::b::r) _ else _)=_
 rw[if_pos rfl,zbH]
 rfl
theorem zo6 {c:UInt8} {t:List UInt8} (hc:c≠37) (o:List UInt8):rwS zcf 0 (c::t) o=rwS zcf 0 t (o++[c]):=by
 rw[rwS,if_neg hc]
 show (if (0:Int)=0 then rwS zcf 0 t _ else _)=_
 rw[if_pos rfl];rfl
def dcL (l:List UInt8):Int×List UInt8:=rwS zcf 0 l []
theorem zbW {l:List UInt8} (h:l.length≤16384):zaR l=dcL l:=by unfold zaR zfk;rw[if_neg (by omega)];rfl
theorem zdG {c:UInt8} {t:List UInt8} (hc:c≠37):(dcL (c::t)).1=(dcL t).1∧((dcL t).1=0→(dcL (c::t)).2=c::(dcL t).2):=by
 unfold dcL
 rw[zo6 hc]
 have:=zh9 t.length t ([]++[c]) (Nat.le_refl _)
 exact⟨this.1,fun h=>by rw[this.2 h];rfl⟩
theorem zec {a b:UInt8} {r:List UInt8} (he:zbt (37::a::b::r)=true):(dcL (37::a::b::r)).1=(dcL r).1∧((dcL r).1=0→(dcL (37::a::b::r)).2=zcn (37::a::b::r)::(dcL r).2):=by
 unfold dcL
 rw[zo7 rfl a b r rfl he]
 have:=zh9 r.length r ([]++[zcn (37::a::b::r)]) (Nat.le_refl _)
 exact⟨this.1,fun h=>by rw[this.2 h];rfl⟩
theorem zgc {t:List UInt8} (he:zbt (37::t)=false):(dcL (37::t)).1=2:=by
 unfold dcL
 rw[rwS,if_pos rfl,if_neg (by rw[he];exact Bool.false_ne_true)]
theorem dcL_err:∀(n:Nat) (l:List UInt8),l.length≤n→(dcL l).1=0∨(dcL l).1=2:=by
 intro n
 induction n with
 | zero=>
  intro l hl
  obtain rfl:l=[]:=List.eq_nil_of_length_eq_zero (by omega)
  exact .inl rfl
 | succ n ih=>
  intro l hl
  cases l with
  | nil=>exact .inl rfl
  | cons c t=>
   by_cases hc:c=37
   ·subst hc
    rcases he:zbt (37::t) with _|_
    ·exact .inr (zgc he)
    ·obtain⟨a,b,r,rfl⟩:=zbK he
     rw[(zec he).1]
     exact ih r (by simp at hl ⊢;omega)
   ·rw[(zdG hc).1]
    exact ih t (by simp at hl;omega)
end Go.Proofs.YtnnipcgblooemaaGreatDoor
