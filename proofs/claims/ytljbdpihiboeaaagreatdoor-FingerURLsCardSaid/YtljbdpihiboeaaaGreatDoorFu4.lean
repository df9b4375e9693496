/- The texts that the proofs of these statements reach, in their order, as few files. -/
import Derived.BigRegion
import Derived.Deep.RegionLaw
import Derived.Deep.RegionHeldLaw
import Derived.Deep.DrawnRows
import Derived.Lib.Join
import Derived.Lib.LastIndexByte
import Derived.Lib.Replace
import Derived.Lib.CountLaws
import Derived.Test.YtljbdpihiboeaaaGreatDoorFu3
set_option linter.unusedVariables false
set_option linter.unusedSimpArgs false
set_option maxRecDepth 100000
namespace Go.Proofs.YtljbdpihiboeaaaGreatDoor
open Go.RowKit
theorem znC (s:ByteArray) (w:World) (h:16384 < s.size) :
  Calls Tryz.prog 187 #[.string s] w fun e w' => e=.returned (zlh (zav s.data.toList)) ∧ Qb w w':=by
 have HE:Hid (zav s.data.toList=(5,zfA)):=Lib.hid (by unfold zav; rw [if_pos (by rw [zaa]; exact h)])
 go_enter Tryz.func187,Tryz.ntmps187
 go_wp2_with fail
 exact bodyPost_ret (v:=zlh (5,zfA)) (by simp [results,Tryz.results187,go_sem,zlh,uriA,zbn,zfA]) rfl ⟨by rw [HE.out],(Qb.refl w).alloc _⟩
set_option maxHeartbeats 2000000 in
theorem zla (s:ByteArray) (w:World) (h:s.size ≤ 16384) :
  Calls Tryz.prog 187 #[.string s] w fun e w' => e=.returned (zlh (zav s.data.toList)) ∧ Qb w w':=by
 obtain ⟨l1,fr,bf,h35⟩:∃ l1 fr bf,zaq 35 s.data.toList=(l1,fr,bf):=⟨_,_,_,rfl⟩
 obtain ⟨l2,qu,bq,h63⟩:∃ l2 qu bq,zaq 63 l1=(l2,qu,bq):=⟨_,_,_,rfl⟩
 have hl1:l1.length ≤ 16384:=by have:=(za2 35 s.data.toList).1; rw [h35,zaa] at this; simp at this; omega
 have hl2:l2.length ≤ 16384:=by have:=(za2 63 l1).1; rw [h63] at this; simp at this; omega
 have HB:Hid (zcA s.data.toList=l2):=Lib.hid (by unfold zcA; rw [h35]; simp only; rw [h63])
 have HS:Hid (zbw s.data.toList=zaq 58 (zat l2)):=Lib.hid (by unfold zbw; rw [HB.out])
 have HE:Hid (zav s.data.toList=if ((zbw s.data.toList).2.2 && !zbQ (zbw s.data.toList).1)=true then (6,zfA) else (0,{ scheme:=if (zbw s.data.toList).2.2=true then (zbw s.data.toList).1 else [],auth:=zbd (zd1 s.data.toList),path:=zby (zd1 s.data.toList),query:=qu,frag:=fr,hs:=(zbw s.data.toList).2.2,ha:=zbK (zd1 s.data.toList),hq:=bq,hf:=bf })):=Lib.hid (by
  unfold zav; rw [if_neg (by rw [zaa]; omega),h35]; simp only; rw [h63])
 have H35:=Lib.hid h35
 have H63:=Lib.hid h63
 have hfl:=(zaI l2).2
 clear h35 h63
 go_enter Tryz.func187,Tryz.ntmps187
 go_wp2_with fail
 refine (zf8 s.data.toList 35 (w.heap.size + 1) _ (by rw [zaa]; omega) (Obk.alloc (Obk.at_ (w.alloc _) _ _ _ (by simp)) _)).mono ?_
 rintro e w1 ⟨he,hC1,hg1⟩
 rw [H35.out] at he hC1
 subst he
 have hU1:=(Obk.at_ ((w.alloc (.cells (zbn zfA) 183)).alloc (.cells #[.string s] 9)) 183 (zbn zfA) (w.heap.size + 2) (by simp)).other hg1 (by omega)
 have hR1:=(Obk.alloc (Obk.alloc (Obk.new w 183 (zbn zfA)) (.cells #[.string s] 9)) (.cells (zbn zfA) 183)).other hg1 (by omega)
 have hq1:Qb w w1:=((((Qb.refl w).alloc (.cells (zbn zfA) 183)).alloc (.cells #[.string s] 9)).alloc (.cells (zbn zfA) 183)).turned hg1 (by omega)
 have hz1:w.heap.size + 3 ≤ w1.heap.size:=by have:=hg1.size; simp at this; omega
 have c4:w1.cell? ⟨w.heap.size + 2,4,none⟩=some (.string (S [])):=hU1.cell 4
 have c8:w1.cell? ⟨w.heap.size + 2,8,none⟩=some (.bool false):=hU1.cell 8
 have f4:=hU1.frozen 4
 have f8:=hU1.frozen 8
 have HU1:=Lib.hid hU1
 have HR1:=Lib.hid hR1
 have HC1:=Lib.hid hC1
 clear hU1 hR1 hC1
 go_wp2_with fail
 refine (zf8 l1 63 (w.heap.size + 1) _ (by omega) ((HC1.out.st (w.heap.size + 2) 4 _ (by omega)).st (w.heap.size + 2) 8 _ (by omega))).mono ?_
 rintro e w2 ⟨he,hC2,hg2⟩
 rw [H63.out] at he hC2
 subst he
 have hU2:Obk w2 (w.heap.size + 2) 183 (zbn { zfA with frag:=fr,hf:=bf }):=((HU1.out.put 4 _).put 8 _).other hg2 (by omega)
 have hR2:=((HR1.out.st (w.heap.size + 2) 4 _ (by omega)).st (w.heap.size + 2) 8 _ (by omega)).other hg2 (by omega)
 have hq2:Qb w w2:=((hq1.st (w.heap.size + 2) 4 _ (by omega)).st (w.heap.size + 2) 8 _ (by omega)).turned hg2 (by omega)
 have hz2:w.heap.size + 3 ≤ w2.heap.size:=by have:=hg2.size; simp [World.setCell] at this; omega
 have c3:w2.cell? ⟨w.heap.size + 2,3,none⟩=some (.string (S [])):=hU2.cell 3
 have c7:w2.cell? ⟨w.heap.size + 2,7,none⟩=some (.bool false):=hU2.cell 7
 have cc:w2.cell? ⟨w.heap.size + 1,0,none⟩=some (.string (S l2)):=hC2.cell 0
 have f3:=hU2.frozen 3
 have f7:=hU2.frozen 7
 have HU2:=Lib.hid hU2
 have HR2:=Lib.hid hR2
 have HC2:=Lib.hid hC2
 clear hU2 hR2 hC2 hg1 c4 c8 f4 f8
 go_wp2_with fail
 refine (zil (S l2) _ (by unfold maxLen; rw [zac]; omega)).mono ?_
 rintro e w3 ⟨rfl,hq3⟩
 rw [zab]
 have hU3:Obk w3 (w.heap.size + 2) 183 (zbn { zfA with frag:=fr,hf:=bf,query:=qu,hq:=bq }):=((HU2.out.put 3 _).put 7 _).qb hq3
 have hR3:Obk w3 w.heap.size 183 (zbn zfA):=((HR2.out.st (w.heap.size + 2) 3 _ (by omega)).st (w.heap.size + 2) 7 _ (by omega)).qb hq3
 have hC3:Obk w3 (w.heap.size + 1) 9 #[.string (S l2)]:=((HC2.out.st (w.heap.size + 2) 3 _ (by omega)).st (w.heap.size + 2) 7 _ (by omega)).qb hq3
 have hqw:Qb w w3:=((hq2.st (w.heap.size + 2) 3 _ (by omega)).st (w.heap.size + 2) 7 _ (by omega)).trans hq3
 have hz3:w.heap.size + 3 ≤ w3.heap.size:=by have:=hq3.size; simp [World.setCell] at this; omega
 clear hg2 c3 c7 cc f3 f7 hq1 hq2 hq3 HU1 HR1 HC1 HU2 HR2 HC2 hz1 hz2
 rcases zbo 58 (zat l2) with ⟨i1,i2,_⟩ | ⟨k,i1,i2,i3,_⟩
 ·have HI:=Lib.hid i1
  have hcut:zbw s.data.toList=(zat l2,[],false):=by rw [HS.out,i2]
  have hhier:zd1 s.data.toList=l2:=by unfold zd1; rw [hcut,HB.out]; rfl
  have HF0:∀ b,zbK l2=b → zav s.data.toList=(0,{ scheme:=[],auth:=zbd l2,path:=zby l2,query:=qu,frag:=fr,hs:=false,ha:=b,hq:=bq,hf:=bf }):=fun b hb => by
   rw [HE.out,hcut,hhier,hb]; rfl
  have HFH:=Lib.hid HF0
  rw [HI.out]
  clear i1 i2 hcut hhier HF0
  have hU:=hU3
  have hR:=hR3
  have hC:=hC3
  clear hU3 hR3 hC3
  have cc:w3.cell? ⟨w.heap.size + 1,0,none⟩=some (.string (S l2)):=hC.cell 0
  rcases h2:zbK l2 with _ | _
  ·have HF:=Lib.hid (HFH.out false h2)
   have hau:zbd l2=[]:=by unfold zbd; rw [h2]; rfl
   have hpa:zby l2=l2:=by unfold zby; rw [h2]; rfl
   rw [hau,hpa] at HF
   have H2:=Lib.hid h2
   have u0:w3.cell? ⟨w.heap.size + 2,0,none⟩=some (.string (S [])):=hU.cell 0
   have uf0:w3.frozen? ⟨w.heap.size + 2,0,none⟩=false:=hU.frozen 0
   have u1:w3.cell? ⟨w.heap.size + 2,1,none⟩=some (.string (S [])):=hU.cell 1
   have uf1:w3.frozen? ⟨w.heap.size + 2,1,none⟩=false:=hU.frozen 1
   have u2:w3.cell? ⟨w.heap.size + 2,2,none⟩=some (.string (S [])):=hU.cell 2
   have uf2:w3.frozen? ⟨w.heap.size + 2,2,none⟩=false:=hU.frozen 2
   have u3:w3.cell? ⟨w.heap.size + 2,3,none⟩=some (.string (S qu)):=hU.cell 3
   have uf3:w3.frozen? ⟨w.heap.size + 2,3,none⟩=false:=hU.frozen 3
   have u4:w3.cell? ⟨w.heap.size + 2,4,none⟩=some (.string (S fr)):=hU.cell 4
   have uf4:w3.frozen? ⟨w.heap.size + 2,4,none⟩=false:=hU.frozen 4
   have u5:w3.cell? ⟨w.heap.size + 2,5,none⟩=some (.bool false):=hU.cell 5
   have uf5:w3.frozen? ⟨w.heap.size + 2,5,none⟩=false:=hU.frozen 5
   have u6:w3.cell? ⟨w.heap.size + 2,6,none⟩=some (.bool false):=hU.cell 6
   have uf6:w3.frozen? ⟨w.heap.size + 2,6,none⟩=false:=hU.frozen 6
   have u7:w3.cell? ⟨w.heap.size + 2,7,none⟩=some (.bool bq):=hU.cell 7
   have uf7:w3.frozen? ⟨w.heap.size + 2,7,none⟩=false:=hU.frozen 7
   have u8:w3.cell? ⟨w.heap.size + 2,8,none⟩=some (.bool bf):=hU.cell 8
   have uf8:w3.frozen? ⟨w.heap.size + 2,8,none⟩=false:=hU.frozen 8
   have r0:w3.cell? ⟨w.heap.size,0,none⟩=some (.string (S [])):=hR.cell 0
   have rf0:w3.frozen? ⟨w.heap.size,0,none⟩=false:=hR.frozen 0
   have r1:w3.cell? ⟨w.heap.size,1,none⟩=some (.string (S [])):=hR.cell 1
   have rf1:w3.frozen? ⟨w.heap.size,1,none⟩=false:=hR.frozen 1
   have r2:w3.cell? ⟨w.heap.size,2,none⟩=some (.string (S [])):=hR.cell 2
   have rf2:w3.frozen? ⟨w.heap.size,2,none⟩=false:=hR.frozen 2
   have r3:w3.cell? ⟨w.heap.size,3,none⟩=some (.string (S [])):=hR.cell 3
   have rf3:w3.frozen? ⟨w.heap.size,3,none⟩=false:=hR.frozen 3
   have r4:w3.cell? ⟨w.heap.size,4,none⟩=some (.string (S [])):=hR.cell 4
   have rf4:w3.frozen? ⟨w.heap.size,4,none⟩=false:=hR.frozen 4
   have r5:w3.cell? ⟨w.heap.size,5,none⟩=some (.bool false):=hR.cell 5
   have rf5:w3.frozen? ⟨w.heap.size,5,none⟩=false:=hR.frozen 5
   have r6:w3.cell? ⟨w.heap.size,6,none⟩=some (.bool false):=hR.cell 6
   have rf6:w3.frozen? ⟨w.heap.size,6,none⟩=false:=hR.frozen 6
   have r7:w3.cell? ⟨w.heap.size,7,none⟩=some (.bool false):=hR.cell 7
   have rf7:w3.frozen? ⟨w.heap.size,7,none⟩=false:=hR.frozen 7
   have r8:w3.cell? ⟨w.heap.size,8,none⟩=some (.bool false):=hR.cell 8
   have rf8:w3.frozen? ⟨w.heap.size,8,none⟩=false:=hR.frozen 8
   have HU:=Lib.hid hU
   have HR:=Lib.hid hR
   clear h2 hau hpa hU hR
   go_wp2_with fail
   refine (Tryz.strings_CutPrefix _ _ _).mono ?_
   rintro e w4 ⟨rfl,rfl⟩
   rw [zab,show Lib.hasPrefix l2 [47,47]=false from H2.out]
   go_wp2_with fail
   exact bodyPost_ret (v:=zlh (0,⟨[],[],l2,qu,fr,false,false,bq,bf⟩)) (by simp [results,Tryz.results187,go_sem,zlh,uriA,zbn,r0,r1,r2,r3,r4,r5,r6,r7,r8,rf0,rf1,rf2,rf3,rf4,rf5,rf6,rf7,rf8]) rfl ⟨by rw [HF.out],((((((((((hqw.st (w.heap.size + 2) 2 _ (by omega)).st w.heap.size 0 _ (by omega)).st w.heap.size 1 _ (by omega)).st w.heap.size 2 _ (by omega)).st w.heap.size 3 _ (by omega)).st w.heap.size 4 _ (by omega)).st w.heap.size 5 _ (by omega)).st w.heap.size 6 _ (by omega)).st w.heap.size 7 _ (by omega)).st w.heap.size 8 _ (by omega))⟩
  ·have hln:=zbv h2
   have htp:=Lib.hid (zhz h2)
   have HF:=Lib.hid (HFH.out true h2)
   have hau:zbd l2=zat (l2.drop 2):=by unfold zbd; rw [h2]; rfl
   have hpa:zby l2=(l2.drop 2).drop (zat (l2.drop 2)).length:=by unfold zby; rw [h2,hau]; rfl
   rw [hau,hpa] at HF
   have hfp:=(zaI (l2.drop 2)).2
   have hdl:(l2.drop 2).length ≤ 16384:=by rw [List.length_drop]; omega
   have H2:=Lib.hid h2
   have HX1:=zaB (S (l2.drop 2)) (zat (l2.drop 2)).length
   rw [zac,zab] at HX1
   have HX:=Lib.hid HX1
   clear h2 hau hpa HX1
   generalize l2.drop 2=d at *
   generalize hga:zat d=a at *
   have HA:=Lib.hid hga
   clear hga
   have HU:=Lib.hid hU
   have HR:=Lib.hid hR
   have HC:=Lib.hid hC
   clear hU hR hC
   go_wp2_with fail
   refine (Tryz.strings_CutPrefix _ _ _).mono ?_
   rintro e w4 ⟨rfl,rfl⟩
   rw [zab,show Lib.hasPrefix l2 [47,47]=true from H2.out,show Lib.trimPrefix l2 [47,47]=d from htp.out]
   go_wp2_with fail
   refine (zc2 (S d) _ (by unfold maxLen; rw [zac]; omega)).mono ?_
   rintro e w5 ⟨rfl,hq5⟩
   rw [zab,HA.out]
   have hU:=HU.out.qb hq5
   have hR:=HR.out.qb hq5
   have hC:=HC.out.qb hq5
   have hqv:=hqw.trans hq5
   have cc5:w5.cell? ⟨w.heap.size + 1,0,none⟩=some (.string (S l2)):=hC.cell 0
   have cf5:w5.frozen? ⟨w.heap.size + 1,0,none⟩=false:=hC.frozen 0
   have u0:w5.cell? ⟨w.heap.size + 2,0,none⟩=some (.string (S [])):=hU.cell 0
   have uf0:w5.frozen? ⟨w.heap.size + 2,0,none⟩=false:=hU.frozen 0
   have u1:w5.cell? ⟨w.heap.size + 2,1,none⟩=some (.string (S [])):=hU.cell 1
   have uf1:w5.frozen? ⟨w.heap.size + 2,1,none⟩=false:=hU.frozen 1
   have u2:w5.cell? ⟨w.heap.size + 2,2,none⟩=some (.string (S [])):=hU.cell 2
   have uf2:w5.frozen? ⟨w.heap.size + 2,2,none⟩=false:=hU.frozen 2
   have u3:w5.cell? ⟨w.heap.size + 2,3,none⟩=some (.string (S qu)):=hU.cell 3
   have uf3:w5.frozen? ⟨w.heap.size + 2,3,none⟩=false:=hU.frozen 3
   have u4:w5.cell? ⟨w.heap.size + 2,4,none⟩=some (.string (S fr)):=hU.cell 4
   have uf4:w5.frozen? ⟨w.heap.size + 2,4,none⟩=false:=hU.frozen 4
   have u5:w5.cell? ⟨w.heap.size + 2,5,none⟩=some (.bool false):=hU.cell 5
   have uf5:w5.frozen? ⟨w.heap.size + 2,5,none⟩=false:=hU.frozen 5
   have u6:w5.cell? ⟨w.heap.size + 2,6,none⟩=some (.bool false):=hU.cell 6
   have uf6:w5.frozen? ⟨w.heap.size + 2,6,none⟩=false:=hU.frozen 6
   have u7:w5.cell? ⟨w.heap.size + 2,7,none⟩=some (.bool bq):=hU.cell 7
   have uf7:w5.frozen? ⟨w.heap.size + 2,7,none⟩=false:=hU.frozen 7
   have u8:w5.cell? ⟨w.heap.size + 2,8,none⟩=some (.bool bf):=hU.cell 8
   have uf8:w5.frozen? ⟨w.heap.size + 2,8,none⟩=false:=hU.frozen 8
   have r0:w5.cell? ⟨w.heap.size,0,none⟩=some (.string (S [])):=hR.cell 0
   have rf0:w5.frozen? ⟨w.heap.size,0,none⟩=false:=hR.frozen 0
   have r1:w5.cell? ⟨w.heap.size,1,none⟩=some (.string (S [])):=hR.cell 1
   have rf1:w5.frozen? ⟨w.heap.size,1,none⟩=false:=hR.frozen 1
   have r2:w5.cell? ⟨w.heap.size,2,none⟩=some (.string (S [])):=hR.cell 2
   have rf2:w5.frozen? ⟨w.heap.size,2,none⟩=false:=hR.frozen 2
   have r3:w5.cell? ⟨w.heap.size,3,none⟩=some (.string (S [])):=hR.cell 3
   have rf3:w5.frozen? ⟨w.heap.size,3,none⟩=false:=hR.frozen 3
   have r4:w5.cell? ⟨w.heap.size,4,none⟩=some (.string (S [])):=hR.cell 4
   have rf4:w5.frozen? ⟨w.heap.size,4,none⟩=false:=hR.frozen 4
   have r5:w5.cell? ⟨w.heap.size,5,none⟩=some (.bool false):=hR.cell 5
   have rf5:w5.frozen? ⟨w.heap.size,5,none⟩=false:=hR.frozen 5
   have r6:w5.cell? ⟨w.heap.size,6,none⟩=some (.bool false):=hR.cell 6
   have rf6:w5.frozen? ⟨w.heap.size,6,none⟩=false:=hR.frozen 6
   have r7:w5.cell? ⟨w.heap.size,7,none⟩=some (.bool false):=hR.cell 7
   have rf7:w5.frozen? ⟨w.heap.size,7,none⟩=false:=hR.frozen 7
   have r8:w5.cell? ⟨w.heap.size,8,none⟩=some (.bool false):=hR.cell 8
   have rf8:w5.frozen? ⟨w.heap.size,8,none⟩=false:=hR.frozen 8
   clear HU HR HC hU hR hC cc hq5
   have e1:(S d).extract a.length d.length=S (d.drop a.length):=HX.out
   go_wp2_with fail
   exact bodyPost_ret (v:=zlh (0,⟨[],a,(d.drop a.length),qu,fr,false,true,bq,bf⟩)) (by simp [results,Tryz.results187,go_sem,zlh,uriA,zbn,r0,r1,r2,r3,r4,r5,r6,r7,r8,rf0,rf1,rf2,rf3,rf4,rf5,rf6,rf7,rf8]) rfl ⟨by rw [HF.out],(((((((((((((hqv.st (w.heap.size + 2) 1 _ (by omega)).st (w.heap.size + 2) 6 _ (by omega)).st (w.heap.size + 1) 0 _ (by omega)).st (w.heap.size + 2) 2 _ (by omega)).st w.heap.size 0 _ (by omega)).st w.heap.size 1 _ (by omega)).st w.heap.size 2 _ (by omega)).st w.heap.size 3 _ (by omega)).st w.heap.size 4 _ (by omega)).st w.heap.size 5 _ (by omega)).st w.heap.size 6 _ (by omega)).st w.heap.size 7 _ (by omega)).st w.heap.size 8 _ (by omega))⟩
 ·have hk2:k < l2.length:=by omega
  have hkf:(zat l2).take k=l2.take k:=by
   have h1:=(zaI l2).1
   rw [h1,List.take_take,Nat.min_eq_left (by omega)]
  rw [hkf] at i3
  have hcut:zbw s.data.toList=(l2.take k,(zat l2).drop (k + 1),true):=by rw [HS.out,i3]
  have hE1:=za8 (S l2) k
  rw [zab] at hE1
  have E1:=Lib.hid hE1
  have HI:=Lib.hid i1
  rw [HI.out]
  rcases hsb:zbQ (l2.take k) with _ | _
  ·have HF:Hid (zav s.data.toList=(6,zfA)):=Lib.hid (by rw [HE.out,hcut]; simp only; rw [hsb]; rfl)
   have HSB:=Lib.hid hsb
   have cc:w3.cell? ⟨w.heap.size + 1,0,none⟩=some (.string (S l2)):=hC3.cell 0
   have r0:w3.cell? ⟨w.heap.size,0,none⟩=some (.string (S [])):=hR3.cell 0
   have rf0:w3.frozen? ⟨w.heap.size,0,none⟩=false:=hR3.frozen 0
   have r1:w3.cell? ⟨w.heap.size,1,none⟩=some (.string (S [])):=hR3.cell 1
   have rf1:w3.frozen? ⟨w.heap.size,1,none⟩=false:=hR3.frozen 1
   have r2:w3.cell? ⟨w.heap.size,2,none⟩=some (.string (S [])):=hR3.cell 2
   have rf2:w3.frozen? ⟨w.heap.size,2,none⟩=false:=hR3.frozen 2
   have r3:w3.cell? ⟨w.heap.size,3,none⟩=some (.string (S [])):=hR3.cell 3
   have rf3:w3.frozen? ⟨w.heap.size,3,none⟩=false:=hR3.frozen 3
   have r4:w3.cell? ⟨w.heap.size,4,none⟩=some (.string (S [])):=hR3.cell 4
   have rf4:w3.frozen? ⟨w.heap.size,4,none⟩=false:=hR3.frozen 4
   have r5:w3.cell? ⟨w.heap.size,5,none⟩=some (.bool false):=hR3.cell 5
   have rf5:w3.frozen? ⟨w.heap.size,5,none⟩=false:=hR3.frozen 5
   have r6:w3.cell? ⟨w.heap.size,6,none⟩=some (.bool false):=hR3.cell 6
   have rf6:w3.frozen? ⟨w.heap.size,6,none⟩=false:=hR3.frozen 6
   have r7:w3.cell? ⟨w.heap.size,7,none⟩=some (.bool false):=hR3.cell 7
   have rf7:w3.frozen? ⟨w.heap.size,7,none⟩=false:=hR3.frozen 7
   have r8:w3.cell? ⟨w.heap.size,8,none⟩=some (.bool false):=hR3.cell 8
   have rf8:w3.frozen? ⟨w.heap.size,8,none⟩=false:=hR3.frozen 8
   clear i1 i3 hcut hkf hE1 hsb hU3 hR3 hC3
   go_wp2_with fail
   rw [E1.out]
   refine (zf4 _ _ (by unfold maxLen; rw [zac,List.length_take]; omega)).mono ?_
   rintro e w4 ⟨rfl,rfl⟩
   rw [zab,HSB.out]
   go_wp2_with fail
   exact bodyPost_ret (v:=zlh (6,zfA)) (by simp [results,Tryz.results187,go_sem,zlh,uriA,zbn,zfA,r0,r1,r2,r3,r4,r5,r6,r7,r8,rf0,rf1,rf2,rf3,rf4,rf5,rf6,rf7,rf8]) rfl ⟨by rw [HF.out],(((((((((hqw.st w.heap.size 0 _ (by omega)).st w.heap.size 1 _ (by omega)).st w.heap.size 2 _ (by omega)).st w.heap.size 3 _ (by omega)).st w.heap.size 4 _ (by omega)).st w.heap.size 5 _ (by omega)).st w.heap.size 6 _ (by omega)).st w.heap.size 7 _ (by omega)).st w.heap.size 8 _ (by omega))⟩
  ·have HSB:=Lib.hid hsb
   have hlt:(l2.take k).length=k:=by rw [List.length_take]; omega
   have hhier:zd1 s.data.toList=l2.drop (k + 1):=by unfold zd1; rw [hcut,HB.out,if_pos rfl,hlt]
   have HF0:∀ b,zbK (l2.drop (k + 1))=b → zav s.data.toList=(0,{ scheme:=l2.take k,auth:=zbd (l2.drop (k + 1)),path:=zby (l2.drop (k + 1)),query:=qu,frag:=fr,hs:=true,ha:=b,hq:=bq,hf:=bf }):=fun b hb => by
    rw [HE.out,hcut,hhier,hb]; simp only; rw [hsb]; rfl
   have HFH:=Lib.hid HF0
   have hE2:=zaB (S l2) (k + 1)
   rw [zab,zac] at hE2
   have E2:=Lib.hid hE2
   have cc:w3.cell? ⟨w.heap.size + 1,0,none⟩=some (.string (S l2)):=hC3.cell 0
   have cf:w3.frozen? ⟨w.heap.size + 1,0,none⟩=false:=hC3.frozen 0
   have u0:w3.cell? ⟨w.heap.size + 2,0,none⟩=some (.string (S [])):=hU3.cell 0
   have u5:w3.cell? ⟨w.heap.size + 2,5,none⟩=some (.bool false):=hU3.cell 5
   have uf0:=hU3.frozen 0
   have uf5:=hU3.frozen 5
   have HU3:=Lib.hid hU3
   have HR3:=Lib.hid hR3
   have HC3:=Lib.hid hC3
   have q0:(0:Int) ≤ (k:Int):=by omega
   have q1:IntKind.i64.wrap ((k:Int) + 1)=(k:Int) + 1:=IntWalk.i64_in _ (by omega)
   have q2:(0:Int) ≤ (k:Int) + 1:=by omega
   have q3:((k:Int) + 1).toNat=k + 1:=by omega
   have q4:(k:Int) + 1 ≤ (l2.length:Int):=by omega
   have q5:(k:Int) ≤ (l2.length:Int):=by omega
   clear i1 i3 hcut hkf hE1 hE2 hsb hU3 hR3 hC3 HF0 hhier hlt
   go_wp2_with fail
   rw [E1.out]
   refine (zf4 _ _ (by unfold maxLen; rw [zac,List.length_take]; omega)).mono ?_
   rintro e w4 ⟨rfl,rfl⟩
   rw [zab,HSB.out]
   go_wp2_with fail
   go_region
   rw [E1.out,E2.out]
   have hU5:Obk ((((w3.setCell ⟨w.heap.size + 1 + 1,0,none⟩ (.string (S (l2.take k)))).setCell ⟨w.heap.size + 1 + 1,5,none⟩ (.bool true)).setCell ⟨w.heap.size + 1,0,none⟩ (.string (S (l2.drop (k + 1))))).drew) (w.heap.size + 2) 183 (zbn { zfA with frag:=fr,hf:=bf,query:=qu,hq:=bq,scheme:=l2.take k,hs:=true }):=(((HU3.out.put 0 _).put 5 _).st (w.heap.size + 1) 0 _ (by omega)).drew
   have hR5:Obk ((((w3.setCell ⟨w.heap.size + 1 + 1,0,none⟩ (.string (S (l2.take k)))).setCell ⟨w.heap.size + 1 + 1,5,none⟩ (.bool true)).setCell ⟨w.heap.size + 1,0,none⟩ (.string (S (l2.drop (k + 1))))).drew) w.heap.size 183 (zbn zfA):=(((HR3.out.st (w.heap.size + 2) 0 _ (by omega)).st (w.heap.size + 2) 5 _ (by omega)).st (w.heap.size + 1) 0 _ (by omega)).drew
   have hC5:Obk ((((w3.setCell ⟨w.heap.size + 1 + 1,0,none⟩ (.string (S (l2.take k)))).setCell ⟨w.heap.size + 1 + 1,5,none⟩ (.bool true)).setCell ⟨w.heap.size + 1,0,none⟩ (.string (S (l2.drop (k + 1))))).drew) (w.heap.size + 1) 9 #[.string (S (l2.drop (k + 1)))]:=(((HC3.out.st (w.heap.size + 2) 0 _ (by omega)).st (w.heap.size + 2) 5 _ (by omega)).put 0 _).drew
   have hqx:Qb w ((((w3.setCell ⟨w.heap.size + 1 + 1,0,none⟩ (.string (S (l2.take k)))).setCell ⟨w.heap.size + 1 + 1,5,none⟩ (.bool true)).setCell ⟨w.heap.size + 1,0,none⟩ (.string (S (l2.drop (k + 1))))).drew):=(((hqw.st (w.heap.size + 2) 0 _ (by omega)).st (w.heap.size + 2) 5 _ (by omega)).st (w.heap.size + 1) 0 _ (by omega)).drew
   clear cc cf u0 u5 uf0 uf5 HU3 HR3 HC3 hqw q0 q1 q2 q3 q4 q5
   generalize ((((w3.setCell ⟨w.heap.size + 1 + 1,0,none⟩ (.string (S (l2.take k)))).setCell ⟨w.heap.size + 1 + 1,5,none⟩ (.bool true)).setCell ⟨w.heap.size + 1,0,none⟩ (.string (S (l2.drop (k + 1))))).drew)=W5 at hU5 hR5 hC5 hqx ⊢
   have hqw:=hqx
   have hU:=hU5
   have hR:=hR5
   have hC:=hC5
   have hln5:(l2.drop (k + 1)).length ≤ 16384:=by rw [List.length_drop]; omega
   generalize l2.drop (k + 1)=rr at *
   clear hU5 hR5 hC5 hqx E1 E2 HI HSB
   generalize l2.take k=sc at *
   have cc:W5.cell? ⟨w.heap.size + 1,0,none⟩=some (.string (S rr)):=hC.cell 0
   rcases h2:zbK rr with _ | _
   ·have HF:=Lib.hid (HFH.out false h2)
    have hau:zbd rr=[]:=by unfold zbd; rw [h2]; rfl
    have hpa:zby rr=rr:=by unfold zby; rw [h2]; rfl
    rw [hau,hpa] at HF
    have H2:=Lib.hid h2
    have u0:W5.cell? ⟨w.heap.size + 2,0,none⟩=some (.string (S sc)):=hU.cell 0
    have uf0:W5.frozen? ⟨w.heap.size + 2,0,none⟩=false:=hU.frozen 0
    have u1:W5.cell? ⟨w.heap.size + 2,1,none⟩=some (.string (S [])):=hU.cell 1
    have uf1:W5.frozen? ⟨w.heap.size + 2,1,none⟩=false:=hU.frozen 1
    have u2:W5.cell? ⟨w.heap.size + 2,2,none⟩=some (.string (S [])):=hU.cell 2
    have uf2:W5.frozen? ⟨w.heap.size + 2,2,none⟩=false:=hU.frozen 2
    have u3:W5.cell? ⟨w.heap.size + 2,3,none⟩=some (.string (S qu)):=hU.cell 3
    have uf3:W5.frozen? ⟨w.heap.size + 2,3,none⟩=false:=hU.frozen 3
    have u4:W5.cell? ⟨w.heap.size + 2,4,none⟩=some (.string (S fr)):=hU.cell 4
    have uf4:W5.frozen? ⟨w.heap.size + 2,4,none⟩=false:=hU.frozen 4
    have u5:W5.cell? ⟨w.heap.size + 2,5,none⟩=some (.bool true):=hU.cell 5
    have uf5:W5.frozen? ⟨w.heap.size + 2,5,none⟩=false:=hU.frozen 5
    have u6:W5.cell? ⟨w.heap.size + 2,6,none⟩=some (.bool false):=hU.cell 6
    have uf6:W5.frozen? ⟨w.heap.size + 2,6,none⟩=false:=hU.frozen 6
    have u7:W5.cell? ⟨w.heap.size + 2,7,none⟩=some (.bool bq):=hU.cell 7
    have uf7:W5.frozen? ⟨w.heap.size + 2,7,none⟩=false:=hU.frozen 7
    have u8:W5.cell? ⟨w.heap.size + 2,8,none⟩=some (.bool bf):=hU.cell 8
    have uf8:W5.frozen? ⟨w.heap.size + 2,8,none⟩=false:=hU.frozen 8
    have r0:W5.cell? ⟨w.heap.size,0,none⟩=some (.string (S [])):=hR.cell 0
    have rf0:W5.frozen? ⟨w.heap.size,0,none⟩=false:=hR.frozen 0
    have r1:W5.cell? ⟨w.heap.size,1,none⟩=some (.string (S [])):=hR.cell 1
    have rf1:W5.frozen? ⟨w.heap.size,1,none⟩=false:=hR.frozen 1
    have r2:W5.cell? ⟨w.heap.size,2,none⟩=some (.string (S [])):=hR.cell 2
    have rf2:W5.frozen? ⟨w.heap.size,2,none⟩=false:=hR.frozen 2
    have r3:W5.cell? ⟨w.heap.size,3,none⟩=some (.string (S [])):=hR.cell 3
    have rf3:W5.frozen? ⟨w.heap.size,3,none⟩=false:=hR.frozen 3
    have r4:W5.cell? ⟨w.heap.size,4,none⟩=some (.string (S [])):=hR.cell 4
    have rf4:W5.frozen? ⟨w.heap.size,4,none⟩=false:=hR.frozen 4
    have r5:W5.cell? ⟨w.heap.size,5,none⟩=some (.bool false):=hR.cell 5
    have rf5:W5.frozen? ⟨w.heap.size,5,none⟩=false:=hR.frozen 5
    have r6:W5.cell? ⟨w.heap.size,6,none⟩=some (.bool false):=hR.cell 6
    have rf6:W5.frozen? ⟨w.heap.size,6,none⟩=false:=hR.frozen 6
    have r7:W5.cell? ⟨w.heap.size,7,none⟩=some (.bool false):=hR.cell 7
    have rf7:W5.frozen? ⟨w.heap.size,7,none⟩=false:=hR.frozen 7
    have r8:W5.cell? ⟨w.heap.size,8,none⟩=some (.bool false):=hR.cell 8
    have rf8:W5.frozen? ⟨w.heap.size,8,none⟩=false:=hR.frozen 8
    have HU:=Lib.hid hU
    have HR:=Lib.hid hR
    clear h2 hau hpa hU hR
    go_wp2_with fail
    refine (Tryz.strings_CutPrefix _ _ _).mono ?_
    rintro e w4 ⟨rfl,rfl⟩
    rw [zab,show Lib.hasPrefix rr [47,47]=false from H2.out]
    go_wp2_with fail
    exact bodyPost_ret (v:=zlh (0,⟨sc,[],rr,qu,fr,true,false,bq,bf⟩)) (by simp [results,Tryz.results187,go_sem,zlh,uriA,zbn,r0,r1,r2,r3,r4,r5,r6,r7,r8,rf0,rf1,rf2,rf3,rf4,rf5,rf6,rf7,rf8]) rfl ⟨by rw [HF.out],((((((((((hqw.st (w.heap.size + 2) 2 _ (by omega)).st w.heap.size 0 _ (by omega)).st w.heap.size 1 _ (by omega)).st w.heap.size 2 _ (by omega)).st w.heap.size 3 _ (by omega)).st w.heap.size 4 _ (by omega)).st w.heap.size 5 _ (by omega)).st w.heap.size 6 _ (by omega)).st w.heap.size 7 _ (by omega)).st w.heap.size 8 _ (by omega))⟩
   ·have hln:=zbv h2
    have htp:=Lib.hid (zhz h2)
    have HF:=Lib.hid (HFH.out true h2)
    have hau:zbd rr=zat (rr.drop 2):=by unfold zbd; rw [h2]; rfl
    have hpa:zby rr=(rr.drop 2).drop (zat (rr.drop 2)).length:=by unfold zby; rw [h2,hau]; rfl
    rw [hau,hpa] at HF
    have hfp:=(zaI (rr.drop 2)).2
    have hdl:(rr.drop 2).length ≤ 16384:=by rw [List.length_drop]; omega
    have H2:=Lib.hid h2
    have HX1:=zaB (S (rr.drop 2)) (zat (rr.drop 2)).length
    rw [zac,zab] at HX1
    have HX:=Lib.hid HX1
    clear h2 hau hpa HX1
    generalize rr.drop 2=d at *
    generalize hga:zat d=a at *
    have HA:=Lib.hid hga
    clear hga
    have HU:=Lib.hid hU
    have HR:=Lib.hid hR
    have HC:=Lib.hid hC
    clear hU hR hC
    go_wp2_with fail
    refine (Tryz.strings_CutPrefix _ _ _).mono ?_
    rintro e w4 ⟨rfl,rfl⟩
    rw [zab,show Lib.hasPrefix rr [47,47]=true from H2.out,show Lib.trimPrefix rr [47,47]=d from htp.out]
    go_wp2_with fail
    refine (zc2 (S d) _ (by unfold maxLen; rw [zac]; omega)).mono ?_
    rintro e w5 ⟨rfl,hq5⟩
    rw [zab,HA.out]
    have hU:=HU.out.qb hq5
    have hR:=HR.out.qb hq5
    have hC:=HC.out.qb hq5
    have hqv:=hqw.trans hq5
    have cc5:w5.cell? ⟨w.heap.size + 1,0,none⟩=some (.string (S rr)):=hC.cell 0
    have cf5:w5.frozen? ⟨w.heap.size + 1,0,none⟩=false:=hC.frozen 0
    have u0:w5.cell? ⟨w.heap.size + 2,0,none⟩=some (.string (S sc)):=hU.cell 0
    have uf0:w5.frozen? ⟨w.heap.size + 2,0,none⟩=false:=hU.frozen 0
    have u1:w5.cell? ⟨w.heap.size + 2,1,none⟩=some (.string (S [])):=hU.cell 1
    have uf1:w5.frozen? ⟨w.heap.size + 2,1,none⟩=false:=hU.frozen 1
    have u2:w5.cell? ⟨w.heap.size + 2,2,none⟩=some (.string (S [])):=hU.cell 2
    have uf2:w5.frozen? ⟨w.heap.size + 2,2,none⟩=false:=hU.frozen 2
    have u3:w5.cell? ⟨w.heap.size + 2,3,none⟩=some (.string (S qu)):=hU.cell 3
    have uf3:w5.frozen? ⟨w.heap.size + 2,3,none⟩=false:=hU.frozen 3
    have u4:w5.cell? ⟨w.heap.size + 2,4,none⟩=some (.string (S fr)):=hU.cell 4
    have uf4:w5.frozen? ⟨w.heap.size + 2,4,none⟩=false:=hU.frozen 4
    have u5:w5.cell? ⟨w.heap.size + 2,5,none⟩=some (.bool true):=hU.cell 5
    have uf5:w5.frozen? ⟨w.heap.size + 2,5,none⟩=false:=hU.frozen 5
    have u6:w5.cell? ⟨w.heap.size + 2,6,none⟩=some (.bool false):=hU.cell 6
    have uf6:w5.frozen? ⟨w.heap.size + 2,6,none⟩=false:=hU.frozen 6
    have u7:w5.cell? ⟨w.heap.size + 2,7,none⟩=some (.bool bq):=hU.cell 7
    have uf7:w5.frozen? ⟨w.heap.size + 2,7,none⟩=false:=hU.frozen 7
    have u8:w5.cell? ⟨w.heap.size + 2,8,none⟩=some (.bool bf):=hU.cell 8
    have uf8:w5.frozen? ⟨w.heap.size + 2,8,none⟩=false:=hU.frozen 8
    have r0:w5.cell? ⟨w.heap.size,0,none⟩=some (.string (S [])):=hR.cell 0
    have rf0:w5.frozen? ⟨w.heap.size,0,none⟩=false:=hR.frozen 0
    have r1:w5.cell? ⟨w.heap.size,1,none⟩=some (.string (S [])):=hR.cell 1
    have rf1:w5.frozen? ⟨w.heap.size,1,none⟩=false:=hR.frozen 1
    have r2:w5.cell? ⟨w.heap.size,2,none⟩=some (.string (S [])):=hR.cell 2
    have rf2:w5.frozen? ⟨w.heap.size,2,none⟩=false:=hR.frozen 2
    have r3:w5.cell? ⟨w.heap.size,3,none⟩=some (.string (S [])):=hR.cell 3
    have rf3:w5.frozen? ⟨w.heap.size,3,none⟩=false:=hR.frozen 3
    have r4:w5.cell? ⟨w.heap.size,4,none⟩=some (.string (S [])):=hR.cell 4
    have rf4:w5.frozen? ⟨w.heap.size,4,none⟩=false:=hR.frozen 4
    have r5:w5.cell? ⟨w.heap.size,5,none⟩=some (.bool false):=hR.cell 5
    have rf5:w5.frozen? ⟨w.heap.size,5,none⟩=false:=hR.frozen 5
    have r6:w5.cell? ⟨w.heap.size,6,none⟩=some (.bool false):=hR.cell 6
    have rf6:w5.frozen? ⟨w.heap.size,6,none⟩=false:=hR.frozen 6
    have r7:w5.cell? ⟨w.heap.size,7,none⟩=some (.bool false):=hR.cell 7
    have rf7:w5.frozen? ⟨w.heap.size,7,none⟩=false:=hR.frozen 7
    have r8:w5.cell? ⟨w.heap.size,8,none⟩=some (.bool false):=hR.cell 8
    have rf8:w5.frozen? ⟨w.heap.size,8,none⟩=false:=hR.frozen 8
    clear HU HR HC hU hR hC cc hq5
    have e1:(S d).extract a.length d.length=S (d.drop a.length):=HX.out
    go_wp2_with fail
    exact bodyPost_ret (v:=zlh (0,⟨sc,a,(d.drop a.length),qu,fr,true,true,bq,bf⟩)) (by simp [results,Tryz.results187,go_sem,zlh,uriA,zbn,r0,r1,r2,r3,r4,r5,r6,r7,r8,rf0,rf1,rf2,rf3,rf4,rf5,rf6,rf7,rf8]) rfl ⟨by rw [HF.out],(((((((((((((hqv.st (w.heap.size + 2) 1 _ (by omega)).st (w.heap.size + 2) 6 _ (by omega)).st (w.heap.size + 1) 0 _ (by omega)).st (w.heap.size + 2) 2 _ (by omega)).st w.heap.size 0 _ (by omega)).st w.heap.size 1 _ (by omega)).st w.heap.size 2 _ (by omega)).st w.heap.size 3 _ (by omega)).st w.heap.size 4 _ (by omega)).st w.heap.size 5 _ (by omega)).st w.heap.size 6 _ (by omega)).st w.heap.size 7 _ (by omega)).st w.heap.size 8 _ (by omega))⟩
end Go.Proofs.YtljbdpihiboeaaaGreatDoor
namespace Go.Proofs.YtljbdpihiboeaaaGreatDoor
open Go.RowKit
def zfY:List UInt8 → List UInt8
 | [] => []
 | x :: t => if x=47 then t else zfY t
def za6 (l:List UInt8):List UInt8:=(zfY l.reverse).reverse
theorem zeT (l:List UInt8) (x:UInt8):za6 (l ++ [x])=if x=47 then l else za6 l:=by
 unfold za6
 rw [List.reverse_append,List.reverse_singleton,List.singleton_append,zfY]
 split
 ·simp
 ·rfl
theorem zew (l:List UInt8):(za6 l).length ≤ l.length:=by
 have:∀ m:List UInt8,(zfY m).length ≤ m.length:=by
  intro m
  induction m with
  | nil => exact Nat.le_refl _
  | cons x t ih => rw [zfY]; split <;> simp <;> omega
 unfold za6
 rw [List.length_reverse]
 have:=this l.reverse
 rw [List.length_reverse] at this; exact this
def zfd (l:List UInt8):Nat:=1 + (zat (l.drop 1)).length
def zax (i o:List UInt8):List UInt8 × List UInt8 :=
 if Lib.hasPrefix i [46,46,47]=true then (i.drop 3,o)
 else if Lib.hasPrefix i [46,47]=true then (i.drop 2,o)
 else if Lib.hasPrefix i [47,46,47]=true then (i.drop 2,o)
 else if i=[47,46] then ([47],o)
 else if Lib.hasPrefix i [47,46,46,47]=true then (i.drop 3,za6 o)
 else if i=[47,46,46] then ([47],za6 o)
 else if i=[46] ∨ i=[46,46] then ([],o)
 else (i.drop (zfd i),o ++ i.take (zfd i))
def ziR:Nat → List UInt8 → List UInt8 → List UInt8
 | 0,i,o => o
 | n + 1,i,o => if i=[] then o else ziR n (zax i o).1 (zax i o).2
def zcv (i o:List UInt8):List UInt8:=ziR i.length i o
def zaS (l:List UInt8):List UInt8:=zcv l []
theorem zdY {s p:List UInt8} (h:Lib.hasPrefix s p=true):p.length ≤ s.length:=(List.isPrefixOf_iff_prefix.1 h).length_le
theorem zkz {l:List UInt8} (h:l ≠ []):zfd l ≤ l.length ∧ 1 ≤ zfd l:=by
 have:=(zaI (l.drop 1)).2
 rw [List.length_drop] at this
 have h2:l.length ≠ 0:=fun e => h (List.eq_nil_of_length_eq_zero e)
 unfold zfd; omega
theorem zaM {i o:List UInt8} (h:i ≠ []):(zax i o).1.length < i.length:=by
 have h0:i.length ≠ 0:=fun e => h (List.eq_nil_of_length_eq_zero e)
 have hs:=zkz h
 unfold zax
 split
 ·simp; omega
 ·split
  ·simp; omega
  ·split
   ·simp; omega
   ·split
    ·rename_i h4; rw [h4]; simp
    ·split
     ·simp; omega
     ·split
      ·rename_i h6; rw [h6]; simp
      ·split
       ·simp; omega
       ·simp; omega
theorem zaJ {i o:List UInt8}:(zax i o).2.length + (zax i o).1.length ≤ o.length + i.length:=by
 have h1:=zew o
 unfold zax
 split
 ·simp
 ·split
  ·simp
  ·split
   ·simp
   ·split
    ·rename_i h4; rw [h4]; simp
    ·split
     ·simp; omega
     ·split
      ·rename_i h6; rw [h6]; simp; omega
      ·split
       ·simp
       ·simp; omega
theorem znv:∀ (n:Nat) (i o:List UInt8),i.length ≤ n → ziR n i o=ziR i.length i o:=by
 intro n
 induction n using Nat.strongRecOn with
 | _ n ih =>
  intro i o hi
  rcases i with _ | ⟨c,t⟩
  ·cases n with
   | zero => rfl
   | succ n => rfl
  ·cases n with
   | zero => simp at hi
   | succ n =>
    have hl:=zaM (i:=c :: t) (o:=o) (by simp)
    simp only [List.length_cons] at hi hl ⊢
    rw [ziR,ziR,if_neg (by simp),if_neg (by simp),ih n (by omega) _ _ (by omega)]
    by_cases e:t.length=n
    ·subst e
     rw [ih t.length (by omega) _ _ (by omega)]
    ·rw [ih t.length (by omega) _ _ (by omega)]
theorem zep (o:List UInt8):zcv [] o=o:=rfl
theorem zaL {i o:List UInt8} (h:i ≠ []):zcv i o=zcv (zax i o).1 (zax i o).2:=by
 have hl:=zaM (o:=o) h
 unfold zcv
 rcases i with _ | ⟨c,t⟩
 ·exact absurd rfl h
 ·simp only [List.length_cons] at hl
  rw [List.length_cons,ziR,if_neg h,znv t.length _ _ (by omega)]
theorem zf0 (s:ByteArray) (w:World) (hs:s.size ≤ maxLen) :
  Calls Tryz.prog 174 #[.string s] w fun e w' => e=.returned (.string (S (za6 s.data.toList))) ∧ w=w':=by
 unfold maxLen at hs
 go_enter Tryz.func174,Tryz.ntmps174
 go_wp2_with fail
 go_loop [3] (fun i => ∃ k:Nat,k ≤ s.size ∧ i=.int .i64 ((k:Int) - 1) ∧ Hid (za6 s.data.toList=za6 (s.data.toList.take k))) (fun i => (intOf i + 1).toNat)
 case atStart => exact ⟨s.size,Nat.le_refl _,rfl,Lib.hid (by rw [List.take_of_length_le (by rw [zaa]; omega)])⟩
 case round =>
  obtain ⟨k,hk,rfl,HT⟩:=hrel
  rcases k with _ | k
  ·go_wp2_with fail
   go_ret
   exact ⟨zfi (by rw [HT.out]; rfl),rfl⟩
  ·have hlt:k < s.size:=by omega
   have hst:=zeT (s.data.toList.take k) s[k]
   rw [← zcp s k hlt] at hst
   have e1:(((k + 1:Nat):Int) - 1)=(k:Int):=by omega
   by_cases hc:s[k]=47
   ·have hb:((s[k].toNat:Int) == 47)=true:=by rw [hc]; rfl
    have HN:Hid (za6 s.data.toList=s.data.toList.take k):=Lib.hid (by rw [HT.out,hst,if_pos hc])
    have HX:=Lib.hid (za8 s k)
    clear hst hc
    rw [e1]
    clear e1
    go_wp2_with fail
    go_ret
    exact ⟨zeh (by rw [HX.out,HN.out]),rfl⟩
   ·have hb:((s[k].toNat:Int) == 47)=false:=by
     rw [beq_eq_false_iff_ne]; intro e; exact hc (UInt8.toNat_inj.1 (by show s[k].toNat=47; omega))
    have HN:Hid (za6 s.data.toList=za6 (s.data.toList.take k)):=Lib.hid (by rw [HT.out,hst,if_neg hc])
    clear hst hc
    rw [e1]
    clear e1
    go_wp2_with fail
    go_round
    case rel => exact ⟨k,by omega,rfl,HN⟩
    case measure => simp [intOf]
end Go.Proofs.YtljbdpihiboeaaaGreatDoor
namespace Go.Proofs.YtljbdpihiboeaaaGreatDoor
open Go.RowKit
theorem zgw {w:World} {ops:Array Oper} {o:Oper} {a:Act} {K:Act → World → Prop} {Q:Exit → Act → World → Prop} {E:Prop} (hgd:o.guard=none) (sl x:Operand)
  (ho:o.op=.call { callee:=.builtin .append,args:=#[sl,x],argTypes:=#[24,9] })
  (B:Nat) (v:Value) (l:List UInt8) (hs:a.eval sl=v) (hrow:zcg w B v l) (s:ByteArray) (hx:a.eval x=.string s)
  (hlen:l.length + s.size ≤ 140737488355328) (hB:B ≤ w.heap.size)
  (h:∀ v' w',zcg w' B v' (l ++ s.data.toList) → Below B w w' → K (a.put o.dst v') w'):if Region.wanted o (yielded ops a.tmps)=true then Oper.wp Tryz.prog o a w K Q else E:=by
 have hw:Region.wanted o (yielded ops a.tmps)=true:=by simp [Region.wanted,hgd]
 rw [if_pos hw]
 obtain ⟨i0,hi,hz0,hz1,hz2⟩:=info_parts zjT
 obtain ⟨v',w',hrun,h1,h2,_⟩:=Lib.run_append_own_string (P:=Tryz.prog) w B 24 9 o.type 5 i0 Tryz.underlying24 Tryz.underlying9 hi hz0 hz1 hz2 v l.length (bv l) hrow s (by simp only [maxLen]; omega) hlen hB
 unfold Oper.wp execOp
 simp only [ho,resolve,invoke,builtin,Sem.run_bind,Sem.run_pure,Result.andThen_ok,List.map_toArray,List.map_cons,List.map_nil,hs,hx,hrun]
 exact h v' w' (zcg.appended h1 (by rw [zgv,zfs]) (by rw [List.length_append,zaa])) (zdz hrow hB h2)
theorem zcg.form {w:World} {B:Nat} {v:Value} {l:List UInt8} (h:zcg w B v l) (hl:0 < l.length):∃ g cap,v=.slice (some ⟨g,0,none⟩) l.length cap ∧ B ≤ g ∧ g < w.heap.size ∧ l.length ≤ cap:=by
 rcases h.2 with ⟨rfl,hn⟩ | ⟨g,cap,cur,rfl,hb,hg,hnc,_⟩
 ·omega
 ·refine ⟨g,cap,rfl,hb,?_,hnc⟩
  rcases Nat.lt_or_ge g w.heap.size with h1 | h1
  ·exact h1
  ·rw [Array.getElem?_eq_none h1] at hg; cases hg
theorem zcg.cap {w:World} {B g n cap:Nat} {l:List UInt8} (h:zcg w B (.slice (some ⟨g,0,none⟩) n cap) l):n=l.length ∧ n ≤ cap ∧ cap ≤ maxLen:=by
 rcases h.2 with ⟨e,_⟩ | ⟨g',cap',cur,e,hb,hg,hnc,hcm,_⟩
 ·simp at e
 ·simp only [Value.slice.injEq] at e
  obtain ⟨_,rfl,rfl⟩:=e
  exact ⟨rfl,hnc,hcm⟩
theorem zcg.pre {w:World} {B g n cap:Nat} {l:List UInt8} (h:zcg w B (.slice (some ⟨g,0,none⟩) n cap) l) (k:Nat) (hk:k ≤ l.length):zcg w B (.slice (some ⟨g,0,none⟩) k cap) (l.take k):=by
 rcases h.2 with ⟨e,_⟩ | ⟨g',cap',cur,e,hb,hg,hnc,hcm,hcs,ht⟩
 ·simp at e
 ·simp only [Value.slice.injEq] at e
  obtain ⟨hgg,rfl,rfl⟩:=e
  obtain rfl:g=g':=by simpa using hgg
  have hlen:(l.take k).length=k:=by rw [List.length_take]; omega
  refine ⟨by rw [zes]; simp,.inr ⟨g,cap,cur,by rw [hlen],hb,hg,by rw [hlen]; omega,hcm,hcs,?_⟩⟩
  rw [hlen]
  have:=congrArg (List.take k) ht
  rw [Nat.mul_one] at this ⊢
  rw [List.take_take,Nat.min_eq_left hk] at this
  rw [this]
  simp [bv,List.map_take]
theorem zgA (l:List UInt8):za6 l=l.take (za6 l).length:=by
 have:∀ (n:Nat) (l:List UInt8),l.length ≤ n → za6 l=l.take (za6 l).length:=by
  intro n
  induction n with
  | zero =>
   intro l hl
   obtain rfl:l=[]:=List.eq_nil_of_length_eq_zero (by omega)
   rfl
  | succ n ih =>
   intro l hl
   rcases List.eq_nil_or_concat l with rfl | ⟨t,x,rfl⟩
   ·rfl
   ·rw [List.concat_eq_append] at hl ⊢
    rw [zeT]
    by_cases hx:x=47
    ·rw [if_pos hx]; simp
    ·rw [if_neg hx]
     have h1:=ih t (by simp at hl; omega)
     have h2:=zew t
     rw [List.take_append_of_le_length h2]
     exact h1
 exact this _ l (Nat.le_refl _)
theorem zed (g cap B:Nat) (l:List UInt8) (w:World) (hrow:zcg w B (.slice (some ⟨g,0,none⟩) l.length cap) l) (hl:l.length ≤ 1000000) :
  Calls Tryz.prog 249 #[.slice (some ⟨g,0,none⟩) l.length cap] w fun e w' => e=.returned (.slice (some ⟨g,0,none⟩) (za6 l).length cap) ∧ w=w':=by
 obtain ⟨_,hc1,hc2⟩:=hrow.cap
 unfold maxLen at hc2
 have HR:=Lib.hid hrow
 clear hrow
 go_enter Tryz.func249,Tryz.ntmps249
 go_wp2_with fail
 go_loop [3] (fun i => ∃ k:Nat,k ≤ l.length ∧ i=.int .i64 ((k:Int) - 1) ∧ Hid (za6 l=za6 (l.take k))) (fun i => (intOf i + 1).toNat)
 case atStart => exact ⟨l.length,Nat.le_refl _,rfl,Lib.hid (by rw [List.take_length])⟩
 case round =>
  obtain ⟨k,hk,rfl,HT⟩:=hrel
  rcases k with _ | k
  ·go_wp2_with fail
   go_ret
   exact ⟨by rw [HT.out]; rfl,rfl⟩
  ·have hlt:k < l.length:=by omega
   have hst:=zeT (l.take k) l[k]
   rw [← List.take_succ_eq_append_getElem hlt] at hst
   have hcell:=HR.out.cell k hlt
   have e1:(((k + 1:Nat):Int) - 1)=(k:Int):=by omega
   have hkl:(l.take k).length=k:=by rw [List.length_take]; omega
   generalize l[k]=x at *
   by_cases hc:x=47
   ·have hb:((x.toNat:Int) == 47)=true:=by rw [hc]; rfl
    have HN:Hid ((za6 l).length=k):=Lib.hid (by rw [HT.out,hst,if_pos hc,hkl])
    clear hst hc hkl
    rw [e1]
    clear e1
    go_wp2_with fail
    go_ret
    exact ⟨by rw [HN.out]; rfl,rfl⟩
   ·have hb:((x.toNat:Int) == 47)=false:=by
     rw [beq_eq_false_iff_ne]; intro e; exact hc (UInt8.toNat_inj.1 (by show x.toNat=47; omega))
    have HN:Hid (za6 l=za6 (l.take k)):=Lib.hid (by rw [HT.out,hst,if_neg hc])
    clear hst hc hkl
    rw [e1]
    clear e1
    go_wp2_with fail
    go_round
    case rel => exact ⟨k,by omega,rfl,HN⟩
    case measure => simp [intOf]
end Go.Proofs.YtljbdpihiboeaaaGreatDoor
namespace Go.Proofs.YtljbdpihiboeaaaGreatDoor
open Go.RowKit
theorem zap {l m:List UInt8} (h:(l == m)=false):¬ l=m:=by rw [beq_eq_false_iff_ne] at h; exact h
set_option maxHeartbeats 8000000 in
theorem zoH (s:ByteArray) (w:World) (hs:s.size ≤ 1000000) :
  Calls Tryz.prog 143 #[.string s] w fun e w' => e=.returned (.string (S (zaS s.data.toList))) ∧ Qb w w':=by
 go_enter Tryz.func143,Tryz.ntmps143
 go_wp2_with fail
 go_loopw [3,4,5] (fun x y _ wr => ∃ i o:List UInt8,o.length + i.length ≤ s.size ∧ x=.string (S i) ∧ y=.string (S o) ∧ Hid (zaS s.data.toList=zcv i o) ∧ Qb w wr) (fun x _ _ _ => zn1 x)
 case atStart => exact ⟨s.data.toList,[],by rw [zaa]; simp,rfl,rfl,Lib.hid rfl,Qb.refl w⟩
 case round =>
  obtain ⟨i,o,hl,rfl,rfl,HD,hq⟩:=hrel
  rcases i with _ | ⟨c,t⟩
  ·go_wp2_with fail
   go_ret
   exact ⟨zfi (by rw [HD.out,zep]),hq⟩
  ·generalize hi:c :: t=i at *
   have hi0:i ≠ []:=by rw [← hi]; simp
   have hne:i.isEmpty=false:=by rw [← hi]; rfl
   clear hi
   have hml:(S i).size ≤ maxLen:=by unfold maxLen; rw [zac]; omega
   have hil:i.length ≤ 1000000:=by omega
   have hol:o.length ≤ 1000000:=by omega
   rcases p1:Lib.hasPrefix i [46,46,47] with _ | _
   ·rcases p2:Lib.hasPrefix i [46,47] with _ | _
    ·rcases p3:Lib.hasPrefix i [47,46,47] with _ | _
     ·rcases e4:(i == [47,46]) with _ | _
      ·rcases p5:Lib.hasPrefix i [47,46,46,47] with _ | _
       ·rcases e6:(i == [47,46,46]) with _ | _
        ·rcases e7:(i == [46]) with _ | _
         ·rcases e8:(i == [46,46]) with _ | _
          ·have HS:Hid (zax i o=(i.drop (zfd i),o ++ i.take (zfd i))):=Lib.hid (by unfold zax; rw [if_neg (by rw [p1]; exact Bool.false_ne_true),if_neg (by rw [p2]; exact Bool.false_ne_true),if_neg (by rw [p3]; exact Bool.false_ne_true),if_neg (zap e4),if_neg (by rw [p5]; exact Bool.false_ne_true),if_neg (zap e6),if_neg (fun h => h.elim (zap e7) (zap e8))])
           have hlt:=zaM (o:=o) hi0
           have hout:=zaJ (i:=i) (o:=o)
           rw [HS.out] at hlt hout
           simp only at hlt hout
           have HN:Hid (zaS s.data.toList=zcv (i.drop (zfd i)) (o ++ i.take (zfd i))):=Lib.hid (by rw [HD.out,zaL hi0,HS.out])
           have hseg:=zkz hi0
           have hx1:=zaB (S i) 1
           rw [zac,zab] at hx1
           have HX1:=Lib.hid hx1
           have hx2:=zaB (S i) (zfd i)
           rw [zac,zab] at hx2
           have hx3:=za8 (S i) (zfd i)
           rw [zab] at hx3
           have HXS:=Lib.hid hx2
           have HXP:=Lib.hid hx3
           have hdl:(i.drop 1).length ≤ 1000000:=by rw [List.length_drop]; omega
           have hsg:(1:Int) + ((zat (i.drop 1)).length:Int)=(zfd i:Int):=by unfold zfd; omega
           have HSG:=Lib.hid hsg
           have HIX:Hid (zaz (i.drop 1) [47]=(zat (i.drop 1)).length):=Lib.hid (zbz 47 _)
           clear hx1 hx2 hx3 hsg
           have Hp1:=Lib.hid p1
           have Hp2:=Lib.hid p2
           have Hp3:=Lib.hid p3
           have Hp5:=Lib.hid p5
           clear p1 p2 p3 p5
           go_wp2_with fail
           refine (zas _ _ _ hml).mono ?_
           rintro e w1 ⟨rfl,rfl⟩
           rw [zab,show Lib.hasPrefix i ({ data:=#[46,46,47] }:ByteArray).data.toList=false from Hp1.out]
           go_wp2_with fail
           refine (zas _ _ _ hml).mono ?_
           rintro e w1 ⟨rfl,rfl⟩
           rw [zab,show Lib.hasPrefix i ({ data:=#[46,47] }:ByteArray).data.toList=false from Hp2.out]
           go_wp2_with fail
           refine (zas _ _ _ hml).mono ?_
           rintro e w1 ⟨rfl,rfl⟩
           rw [zab,show Lib.hasPrefix i ({ data:=#[47,46,47] }:ByteArray).data.toList=false from Hp3.out]
           go_wp2_with fail
           refine (zas _ _ _ hml).mono ?_
           rintro e w1 ⟨rfl,rfl⟩
           rw [zab,show Lib.hasPrefix i ({ data:=#[47,46,46,47] }:ByteArray).data.toList=false from Hp5.out]
           go_wp2_with fail
           rw [HX1.out]
           refine (zbh _ _ _ (by unfold maxLen; rw [zac]; omega) (by decide)).mono ?_
           rintro e w1 ⟨rfl,rfl⟩
           rw [zab,show zaz (i.drop 1) ({ data:=#[47] }:ByteArray).data.toList=(zat (i.drop 1)).length from HIX.out]
           have hfl:=(zaI (i.drop 1)).2
           generalize hfn:(zat (i.drop 1)).length=fn at *
           clear hfn
           have q0:(1:Int) + (fn:Int)=(zfd i:Int):=HSG.out
           generalize hsn:zfd i=sg at *
           clear hsn
           have q1:(0:Int) ≤ (sg:Int):=by omega
           have q2:(sg:Int) ≤ (i.length:Int):=by omega
           have q3:(i.take sg).length ≤ sg:=List.length_take_le _ _
           go_wp2_with fail
           go_quiet (fail)
           go_wp2_with fail
           go_roundw
           case rel => exact ⟨_,_,by omega,congrArg Value.string HXS.out,congrArg Value.string (by rw [HXP.out,← S_of (S o ++ S (i.take sg)),ByteArray.data_append,Array.toList_append]),HN,hq.drewN _⟩
           case measure => rw [HXS.out,zah,zah,zac,zac]; exact hlt
          ·have HS:Hid (zax i o=([],o)):=Lib.hid (by unfold zax; rw [if_neg (by rw [p1]; exact Bool.false_ne_true),if_neg (by rw [p2]; exact Bool.false_ne_true),if_neg (by rw [p3]; exact Bool.false_ne_true),if_neg (zap e4),if_neg (by rw [p5]; exact Bool.false_ne_true),if_neg (zap e6),if_pos (.inr (eq_of_beq e8))])
           have hlt:=zaM (o:=o) hi0
           have hout:=zaJ (i:=i) (o:=o)
           rw [HS.out] at hlt hout
           simp only at hlt hout
           have HN:Hid (zaS s.data.toList=zcv ([]) (o)):=Lib.hid (by rw [HD.out,zaL hi0,HS.out])
           have Hp1:=Lib.hid p1
           have Hp2:=Lib.hid p2
           have Hp3:=Lib.hid p3
           have Hp5:=Lib.hid p5
           clear p1 p2 p3 p5
           go_wp2_with fail
           refine (zas _ _ _ hml).mono ?_
           rintro e w1 ⟨rfl,rfl⟩
           rw [zab,show Lib.hasPrefix i ({ data:=#[46,46,47] }:ByteArray).data.toList=false from Hp1.out]
           go_wp2_with fail
           refine (zas _ _ _ hml).mono ?_
           rintro e w1 ⟨rfl,rfl⟩
           rw [zab,show Lib.hasPrefix i ({ data:=#[46,47] }:ByteArray).data.toList=false from Hp2.out]
           go_wp2_with fail
           refine (zas _ _ _ hml).mono ?_
           rintro e w1 ⟨rfl,rfl⟩
           rw [zab,show Lib.hasPrefix i ({ data:=#[47,46,47] }:ByteArray).data.toList=false from Hp3.out]
           go_wp2_with fail
           refine (zas _ _ _ hml).mono ?_
           rintro e w1 ⟨rfl,rfl⟩
           rw [zab,show Lib.hasPrefix i ({ data:=#[47,46,46,47] }:ByteArray).data.toList=false from Hp5.out]
           go_wp2_with fail
           go_roundw
           case rel => exact ⟨_,_,by omega,rfl,rfl,HN,hq⟩
           case measure => rw [zah,zah,zac]; exact hlt
         ·have HS:Hid (zax i o=([],o)):=Lib.hid (by unfold zax; rw [if_neg (by rw [p1]; exact Bool.false_ne_true),if_neg (by rw [p2]; exact Bool.false_ne_true),if_neg (by rw [p3]; exact Bool.false_ne_true),if_neg (zap e4),if_neg (by rw [p5]; exact Bool.false_ne_true),if_neg (zap e6),if_pos (.inl (eq_of_beq e7))])
          have hlt:=zaM (o:=o) hi0
          have hout:=zaJ (i:=i) (o:=o)
          rw [HS.out] at hlt hout
          simp only at hlt hout
          have HN:Hid (zaS s.data.toList=zcv ([]) (o)):=Lib.hid (by rw [HD.out,zaL hi0,HS.out])
          have Hp1:=Lib.hid p1
          have Hp2:=Lib.hid p2
          have Hp3:=Lib.hid p3
          have Hp5:=Lib.hid p5
          clear p1 p2 p3 p5
          go_wp2_with fail
          refine (zas _ _ _ hml).mono ?_
          rintro e w1 ⟨rfl,rfl⟩
          rw [zab,show Lib.hasPrefix i ({ data:=#[46,46,47] }:ByteArray).data.toList=false from Hp1.out]
          go_wp2_with fail
          refine (zas _ _ _ hml).mono ?_
          rintro e w1 ⟨rfl,rfl⟩
          rw [zab,show Lib.hasPrefix i ({ data:=#[46,47] }:ByteArray).data.toList=false from Hp2.out]
          go_wp2_with fail
          refine (zas _ _ _ hml).mono ?_
          rintro e w1 ⟨rfl,rfl⟩
          rw [zab,show Lib.hasPrefix i ({ data:=#[47,46,47] }:ByteArray).data.toList=false from Hp3.out]
          go_wp2_with fail
          refine (zas _ _ _ hml).mono ?_
          rintro e w1 ⟨rfl,rfl⟩
          rw [zab,show Lib.hasPrefix i ({ data:=#[47,46,46,47] }:ByteArray).data.toList=false from Hp5.out]
          go_wp2_with fail
          go_roundw
          case rel => exact ⟨_,_,by omega,rfl,rfl,HN,hq⟩
          case measure => rw [zah,zah,zac]; exact hlt
        ·have HS:Hid (zax i o=([47],za6 o)):=Lib.hid (by unfold zax; rw [if_neg (by rw [p1]; exact Bool.false_ne_true),if_neg (by rw [p2]; exact Bool.false_ne_true),if_neg (by rw [p3]; exact Bool.false_ne_true),if_neg (zap e4),if_neg (by rw [p5]; exact Bool.false_ne_true),if_pos (eq_of_beq e6)])
         have hlt:=zaM (o:=o) hi0
         have hout:=zaJ (i:=i) (o:=o)
         rw [HS.out] at hlt hout
         simp only at hlt hout
         have HN:Hid (zaS s.data.toList=zcv ([47]) (za6 o)):=Lib.hid (by rw [HD.out,zaL hi0,HS.out])
         have Hp1:=Lib.hid p1
         have Hp2:=Lib.hid p2
         have Hp3:=Lib.hid p3
         have Hp5:=Lib.hid p5
         clear p1 p2 p3 p5
         go_wp2_with fail
         refine (zas _ _ _ hml).mono ?_
         rintro e w1 ⟨rfl,rfl⟩
         rw [zab,show Lib.hasPrefix i ({ data:=#[46,46,47] }:ByteArray).data.toList=false from Hp1.out]
         go_wp2_with fail
         refine (zas _ _ _ hml).mono ?_
         rintro e w1 ⟨rfl,rfl⟩
         rw [zab,show Lib.hasPrefix i ({ data:=#[46,47] }:ByteArray).data.toList=false from Hp2.out]
         go_wp2_with fail
         refine (zas _ _ _ hml).mono ?_
         rintro e w1 ⟨rfl,rfl⟩
         rw [zab,show Lib.hasPrefix i ({ data:=#[47,46,47] }:ByteArray).data.toList=false from Hp3.out]
         go_wp2_with fail
         refine (zas _ _ _ hml).mono ?_
         rintro e w1 ⟨rfl,rfl⟩
         rw [zab,show Lib.hasPrefix i ({ data:=#[47,46,46,47] }:ByteArray).data.toList=false from Hp5.out]
         go_wp2_with fail
         refine (zf0 _ _ (by unfold maxLen; rw [zac]; omega)).mono ?_
         rintro e w1 ⟨rfl,rfl⟩
         go_wp2_with fail
         go_roundw
         case rel => exact ⟨_,_,by omega,rfl,rfl,HN,hq⟩
         case measure => rw [zah,zah,zac]; exact hlt
       ·have HS:Hid (zax i o=(i.drop 3,za6 o)):=Lib.hid (by unfold zax; rw [if_neg (by rw [p1]; exact Bool.false_ne_true),if_neg (by rw [p2]; exact Bool.false_ne_true),if_neg (by rw [p3]; exact Bool.false_ne_true),if_neg (zap e4),if_pos p5])
        have hlt:=zaM (o:=o) hi0
        have hout:=zaJ (i:=i) (o:=o)
        rw [HS.out] at hlt hout
        simp only at hlt hout
        have HN:Hid (zaS s.data.toList=zcv (i.drop 3) (za6 o)):=Lib.hid (by rw [HD.out,zaL hi0,HS.out])
        have hp3:3 ≤ i.length:=by have:=zdY p5; simp at this; omega
        have hx:=zaB (S i) 3
        rw [zac,zab] at hx
        have HX:=Lib.hid hx
        clear hx
        have Hp1:=Lib.hid p1
        have Hp2:=Lib.hid p2
        have Hp3:=Lib.hid p3
        have Hp5:=Lib.hid p5
        clear p1 p2 p3 p5
        go_wp2_with fail
        refine (zas _ _ _ hml).mono ?_
        rintro e w1 ⟨rfl,rfl⟩
        rw [zab,show Lib.hasPrefix i ({ data:=#[46,46,47] }:ByteArray).data.toList=false from Hp1.out]
        go_wp2_with fail
        refine (zas _ _ _ hml).mono ?_
        rintro e w1 ⟨rfl,rfl⟩
        rw [zab,show Lib.hasPrefix i ({ data:=#[46,47] }:ByteArray).data.toList=false from Hp2.out]
        go_wp2_with fail
        refine (zas _ _ _ hml).mono ?_
        rintro e w1 ⟨rfl,rfl⟩
        rw [zab,show Lib.hasPrefix i ({ data:=#[47,46,47] }:ByteArray).data.toList=false from Hp3.out]
        go_wp2_with fail
        refine (zas _ _ _ hml).mono ?_
        rintro e w1 ⟨rfl,rfl⟩
        rw [zab,show Lib.hasPrefix i ({ data:=#[47,46,46,47] }:ByteArray).data.toList=true from Hp5.out]
        go_wp2_with fail
        go_quiet ((go_at_call 174; exact zc8 (zf0 _ _ (by unfold maxLen; rw [zac]; omega))))
        go_wp2_with fail
        go_roundw
        case rel => exact ⟨_,_,by omega,congrArg Value.string HX.out,rfl,HN,hq.drewN _⟩
        case measure => rw [HX.out,zah,zah,zac,zac]; exact hlt
      ·have HS:Hid (zax i o=([47],o)):=Lib.hid (by unfold zax; rw [if_neg (by rw [p1]; exact Bool.false_ne_true),if_neg (by rw [p2]; exact Bool.false_ne_true),if_neg (by rw [p3]; exact Bool.false_ne_true),if_pos (eq_of_beq e4)])
       have hlt:=zaM (o:=o) hi0
       have hout:=zaJ (i:=i) (o:=o)
       rw [HS.out] at hlt hout
       simp only at hlt hout
       have HN:Hid (zaS s.data.toList=zcv ([47]) (o)):=Lib.hid (by rw [HD.out,zaL hi0,HS.out])
       have Hp1:=Lib.hid p1
       have Hp2:=Lib.hid p2
       have Hp3:=Lib.hid p3
       clear p1 p2 p3
       go_wp2_with fail
       refine (zas _ _ _ hml).mono ?_
       rintro e w1 ⟨rfl,rfl⟩
       rw [zab,show Lib.hasPrefix i ({ data:=#[46,46,47] }:ByteArray).data.toList=false from Hp1.out]
       go_wp2_with fail
       refine (zas _ _ _ hml).mono ?_
       rintro e w1 ⟨rfl,rfl⟩
       rw [zab,show Lib.hasPrefix i ({ data:=#[46,47] }:ByteArray).data.toList=false from Hp2.out]
       go_wp2_with fail
       refine (zas _ _ _ hml).mono ?_
       rintro e w1 ⟨rfl,rfl⟩
       rw [zab,show Lib.hasPrefix i ({ data:=#[47,46,47] }:ByteArray).data.toList=false from Hp3.out]
       go_wp2_with fail
       go_roundw
       case rel => exact ⟨_,_,by omega,rfl,rfl,HN,hq⟩
       case measure => rw [zah,zah,zac]; exact hlt
     ·have HS:Hid (zax i o=(i.drop 2,o)):=Lib.hid (by unfold zax; rw [if_neg (by rw [p1]; exact Bool.false_ne_true),if_neg (by rw [p2]; exact Bool.false_ne_true),if_pos p3])
      have hlt:=zaM (o:=o) hi0
      have hout:=zaJ (i:=i) (o:=o)
      rw [HS.out] at hlt hout
      simp only at hlt hout
      have HN:Hid (zaS s.data.toList=zcv (i.drop 2) (o)):=Lib.hid (by rw [HD.out,zaL hi0,HS.out])
      have hp2:2 ≤ i.length:=by have:=zdY p3; simp at this; omega
      have hx:=zaB (S i) 2
      rw [zac,zab] at hx
      have HX:=Lib.hid hx
      clear hx
      have Hp1:=Lib.hid p1
      have Hp2:=Lib.hid p2
      have Hp3:=Lib.hid p3
      clear p1 p2 p3
      go_wp2_with fail
      refine (zas _ _ _ hml).mono ?_
      rintro e w1 ⟨rfl,rfl⟩
      rw [zab,show Lib.hasPrefix i ({ data:=#[46,46,47] }:ByteArray).data.toList=false from Hp1.out]
      go_wp2_with fail
      refine (zas _ _ _ hml).mono ?_
      rintro e w1 ⟨rfl,rfl⟩
      rw [zab,show Lib.hasPrefix i ({ data:=#[46,47] }:ByteArray).data.toList=false from Hp2.out]
      go_wp2_with fail
      refine (zas _ _ _ hml).mono ?_
      rintro e w1 ⟨rfl,rfl⟩
      rw [zab,show Lib.hasPrefix i ({ data:=#[47,46,47] }:ByteArray).data.toList=true from Hp3.out]
      go_wp2_with fail
      go_roundw
      case rel => exact ⟨_,_,by omega,congrArg Value.string HX.out,rfl,HN,hq⟩
      case measure => rw [HX.out,zah,zah,zac,zac]; exact hlt
    ·have HS:Hid (zax i o=(i.drop 2,o)):=Lib.hid (by unfold zax; rw [if_neg (by rw [p1]; exact Bool.false_ne_true),if_pos p2])
     have hlt:=zaM (o:=o) hi0
     have hout:=zaJ (i:=i) (o:=o)
     rw [HS.out] at hlt hout
     simp only at hlt hout
     have HN:Hid (zaS s.data.toList=zcv (i.drop 2) (o)):=Lib.hid (by rw [HD.out,zaL hi0,HS.out])
     have hp2:2 ≤ i.length:=by have:=zdY p2; simp at this; omega
     have hx:=zaB (S i) 2
     rw [zac,zab] at hx
     have HX:=Lib.hid hx
     clear hx
     have Hp1:=Lib.hid p1
     have Hp2:=Lib.hid p2
     clear p1 p2
     go_wp2_with fail
     refine (zas _ _ _ hml).mono ?_
     rintro e w1 ⟨rfl,rfl⟩
     rw [zab,show Lib.hasPrefix i ({ data:=#[46,46,47] }:ByteArray).data.toList=false from Hp1.out]
     go_wp2_with fail
     refine (zas _ _ _ hml).mono ?_
     rintro e w1 ⟨rfl,rfl⟩
     rw [zab,show Lib.hasPrefix i ({ data:=#[46,47] }:ByteArray).data.toList=true from Hp2.out]
     go_wp2_with fail
     go_roundw
     case rel => exact ⟨_,_,by omega,congrArg Value.string HX.out,rfl,HN,hq⟩
     case measure => rw [HX.out,zah,zah,zac,zac]; exact hlt
   ·have HS:Hid (zax i o=(i.drop 3,o)):=Lib.hid (by unfold zax; rw [if_pos p1])
    have hlt:=zaM (o:=o) hi0
    have hout:=zaJ (i:=i) (o:=o)
    rw [HS.out] at hlt hout
    simp only at hlt hout
    have HN:Hid (zaS s.data.toList=zcv (i.drop 3) (o)):=Lib.hid (by rw [HD.out,zaL hi0,HS.out])
    have hp3:3 ≤ i.length:=by have:=zdY p1; simp at this; omega
    have hx:=zaB (S i) 3
    rw [zac,zab] at hx
    have HX:=Lib.hid hx
    clear hx
    have Hp1:=Lib.hid p1
    clear p1
    go_wp2_with fail
    refine (zas _ _ _ hml).mono ?_
    rintro e w1 ⟨rfl,rfl⟩
    rw [zab,show Lib.hasPrefix i ({ data:=#[46,46,47] }:ByteArray).data.toList=true from Hp1.out]
    go_wp2_with fail
    go_roundw
    case rel => exact ⟨_,_,by omega,congrArg Value.string HX.out,rfl,HN,hq⟩
    case measure => rw [HX.out,zah,zah,zac,zac]; exact hlt
end Go.Proofs.YtljbdpihiboeaaaGreatDoor
namespace Go.Proofs.YtljbdpihiboeaaaGreatDoor
open Go.RowKit
attribute [local go_sem ↓] Go.wp_at_zero Go.wp_at_succ
set_option maxHeartbeats 8000000 in
theorem zoR (s:ByteArray) (w:World) (hs:s.size ≤ 1000000) :
  Calls Tryz.prog 215 #[.string s] w fun e w' => e=.returned (.string (S (zaS s.data.toList))) ∧ Qb w w':=by
 have hmk:=fun W => zfn s.size (by omega) W
 go_enter Tryz.func215,Tryz.ntmps215
 go_wp2_with fail
 go_region
 go_wp2_with fail
 clear hmk
 go_loopw [3,4,5] (fun x y _ wr => ∃ (i o:List UInt8) (g cap:Nat),o.length + i.length ≤ s.size ∧ x=.string (S i) ∧ y=.slice (some ⟨g,0,none⟩) o.length cap ∧ zcg wr w.heap.size (.slice (some ⟨g,0,none⟩) o.length cap) o ∧ Hid (zaS s.data.toList=zcv i o) ∧ Qb w wr) (fun x _ _ _ => zn1 x)
 case atStart => exact ⟨s.data.toList,[],w.heap.size,s.size,by rw [zaa]; simp,rfl,rfl,(zet w _ 0 _ (Nat.le_refl _) (Nat.zero_le _) (by omega)).drew,Lib.hid rfl,((Qb.refl w).alloc _).drew⟩
 case round =>
  obtain ⟨i,o,g,cap,hl,rfl,rfl,hrow,HD,hq⟩:=hrel
  have hB:w.heap.size ≤ wr.heap.size:=hq.size
  rcases i with _ | ⟨c,t⟩
  ·have hst:=zeV hrow
   clear hrow
   go_wp2_with fail
   go_ret
   exact ⟨zfi (by rw [HD.out,zep]),hq⟩
  ·generalize hi:c :: t=i at *
   have hi0:i ≠ []:=by rw [← hi]; simp
   have hne:i.isEmpty=false:=by rw [← hi]; rfl
   clear hi
   have hml:(S i).size ≤ maxLen:=by unfold maxLen; rw [zac]; omega
   have hil:i.length ≤ 1000000:=by omega
   have hol:o.length ≤ 1000000:=by omega
   rcases p1:Lib.hasPrefix i [46,46,47] with _ | _
   ·rcases p2:Lib.hasPrefix i [46,47] with _ | _
    ·rcases p3:Lib.hasPrefix i [47,46,47] with _ | _
     ·rcases e4:(i == [47,46]) with _ | _
      ·rcases p5:Lib.hasPrefix i [47,46,46,47] with _ | _
       ·rcases e6:(i == [47,46,46]) with _ | _
        ·rcases e7:(i == [46]) with _ | _
         ·rcases e8:(i == [46,46]) with _ | _
          ·have HS:Hid (zax i o=(i.drop (zfd i),o ++ i.take (zfd i))):=Lib.hid (by unfold zax; rw [if_neg (by rw [p1]; exact Bool.false_ne_true),if_neg (by rw [p2]; exact Bool.false_ne_true),if_neg (by rw [p3]; exact Bool.false_ne_true),if_neg (zap e4),if_neg (by rw [p5]; exact Bool.false_ne_true),if_neg (zap e6),if_neg (fun h => h.elim (zap e7) (zap e8))])
           have hlt:=zaM (o:=o) hi0
           have hout:=zaJ (i:=i) (o:=o)
           rw [HS.out] at hlt hout
           simp only at hlt hout
           have HN:Hid (zaS s.data.toList=zcv (i.drop (zfd i)) (o ++ i.take (zfd i))):=Lib.hid (by rw [HD.out,zaL hi0,HS.out])
           have hseg:=zkz hi0
           have hx1:=zaB (S i) 1
           rw [zac,zab] at hx1
           have HX1:=Lib.hid hx1
           have hx2:=zaB (S i) (zfd i)
           rw [zac,zab] at hx2
           have hx3:=za8 (S i) (zfd i)
           rw [zab] at hx3
           have HXS:=Lib.hid hx2
           have HXP:=Lib.hid hx3
           have hdl:(i.drop 1).length ≤ 1000000:=by rw [List.length_drop]; omega
           have hsg:(1:Int) + ((zat (i.drop 1)).length:Int)=(zfd i:Int):=by unfold zfd; omega
           have HSG:=Lib.hid hsg
           clear hx1 hx2 hx3 hsg
           have Hp1:=Lib.hid p1
           have Hp2:=Lib.hid p2
           have Hp3:=Lib.hid p3
           have Hp5:=Lib.hid p5
           clear p1 p2 p3 p5
           go_wp2_with fail
           refine (Tryz.strings_HasPrefix _ _ _).mono ?_
           rintro e w1 ⟨rfl,rfl⟩
           rw [zab,show Lib.hasPrefix i ({ data:=#[46,46,47] }:ByteArray).data.toList=false from Hp1.out]
           go_wp2_with fail
           refine (Tryz.strings_HasPrefix _ _ _).mono ?_
           rintro e w1 ⟨rfl,rfl⟩
           rw [zab,show Lib.hasPrefix i ({ data:=#[46,47] }:ByteArray).data.toList=false from Hp2.out]
           go_wp2_with fail
           refine (Tryz.strings_HasPrefix _ _ _).mono ?_
           rintro e w1 ⟨rfl,rfl⟩
           rw [zab,show Lib.hasPrefix i ({ data:=#[47,46,47] }:ByteArray).data.toList=false from Hp3.out]
           go_wp2_with fail
           refine (Tryz.strings_HasPrefix _ _ _).mono ?_
           rintro e w1 ⟨rfl,rfl⟩
           rw [zab,show Lib.hasPrefix i ({ data:=#[47,46,46,47] }:ByteArray).data.toList=false from Hp5.out]
           go_wp2_with fail
           rw [HX1.out]
           refine (zc2 _ _ (by unfold maxLen; rw [zac]; omega)).mono ?_
           rintro e w1 ⟨rfl,hq1⟩
           rw [zab]
           have hrow1:=hrow.below hq1
           have hB1:w.heap.size ≤ w1.heap.size:=Nat.le_trans hB hq1.size
           have hfl:=(zaI (i.drop 1)).2
           generalize hfa:zat (i.drop 1)=fa at *
           have HFA:=Lib.hid hfa
           clear hfa
           have q0:(1:Int) + (fa.length:Int)=(zfd i:Int):=HSG.out
           generalize hsn:zfd i=sg at *
           clear hsn
           have q1:(0:Int) ≤ (sg:Int):=by omega
           have q2:(sg:Int) ≤ (i.length:Int):=by omega
           have q3:(i.take sg).length ≤ sg:=List.length_take_le _ _
           go_wp2_with fail
           go_region_held_law (fun w' => True) (first | trivial | go_keep) ((refine zgw (o:=⟨some 24,_,_,_,_,_⟩) (by rfl) (.tmp 20) (.tmp 23) (by rfl) w.heap.size _ o (by rfl) (zcg.drew hrow1) _ (by rfl) (by rw [HXP.out,zac]; omega) (by simp; omega) ?_; intro v1 w2 hr1 hb1))
           rw [HXP.out,zab] at hr1
           obtain ⟨oo,hoo⟩:∃ oo,oo=o ++ i.take sg:=⟨_,rfl⟩
           rw [← hoo] at hr1
           have HN2:Hid (zaS s.data.toList=zcv (i.drop sg) oo):=Lib.hid (by rw [hoo]; exact HN.out)
           have hoo1:oo.length + (i.drop sg).length ≤ s.size:=by rw [hoo]; omega
           have hoo2:0 < oo.length:=by rw [hoo,List.length_append,List.length_take]; omega
           clear hoo HN hout
           obtain ⟨g1,cap1,rfl,_⟩:=hr1.form hoo2
           go_wp2_with fail
           go_roundw
           case rel => exact ⟨_,_,_,_,hoo1,congrArg Value.string HXS.out,rfl,hr1,HN2,Below.trans ((hq.trans hq1).drew) hb1⟩
           case measure => rw [HXS.out,zah,zah,zac,zac]; exact hlt
          ·have HS:Hid (zax i o=([],o)):=Lib.hid (by unfold zax; rw [if_neg (by rw [p1]; exact Bool.false_ne_true),if_neg (by rw [p2]; exact Bool.false_ne_true),if_neg (by rw [p3]; exact Bool.false_ne_true),if_neg (zap e4),if_neg (by rw [p5]; exact Bool.false_ne_true),if_neg (zap e6),if_pos (.inr (eq_of_beq e8))])
           have hlt:=zaM (o:=o) hi0
           have hout:=zaJ (i:=i) (o:=o)
           rw [HS.out] at hlt hout
           simp only at hlt hout
           have HN:Hid (zaS s.data.toList=zcv ([]) (o)):=Lib.hid (by rw [HD.out,zaL hi0,HS.out])
           have Hp1:=Lib.hid p1
           have Hp2:=Lib.hid p2
           have Hp3:=Lib.hid p3
           have Hp5:=Lib.hid p5
           clear p1 p2 p3 p5
           go_wp2_with fail
           refine (Tryz.strings_HasPrefix _ _ _).mono ?_
           rintro e w1 ⟨rfl,rfl⟩
           rw [zab,show Lib.hasPrefix i ({ data:=#[46,46,47] }:ByteArray).data.toList=false from Hp1.out]
           go_wp2_with fail
           refine (Tryz.strings_HasPrefix _ _ _).mono ?_
           rintro e w1 ⟨rfl,rfl⟩
           rw [zab,show Lib.hasPrefix i ({ data:=#[46,47] }:ByteArray).data.toList=false from Hp2.out]
           go_wp2_with fail
           refine (Tryz.strings_HasPrefix _ _ _).mono ?_
           rintro e w1 ⟨rfl,rfl⟩
           rw [zab,show Lib.hasPrefix i ({ data:=#[47,46,47] }:ByteArray).data.toList=false from Hp3.out]
           go_wp2_with fail
           refine (Tryz.strings_HasPrefix _ _ _).mono ?_
           rintro e w1 ⟨rfl,rfl⟩
           rw [zab,show Lib.hasPrefix i ({ data:=#[47,46,46,47] }:ByteArray).data.toList=false from Hp5.out]
           go_wp2_with fail
           go_roundw
           case rel => exact ⟨_,_,_,_,by omega,rfl,rfl,hrow,HN,hq⟩
           case measure => rw [zah,zah,zac]; exact hlt
         ·have HS:Hid (zax i o=([],o)):=Lib.hid (by unfold zax; rw [if_neg (by rw [p1]; exact Bool.false_ne_true),if_neg (by rw [p2]; exact Bool.false_ne_true),if_neg (by rw [p3]; exact Bool.false_ne_true),if_neg (zap e4),if_neg (by rw [p5]; exact Bool.false_ne_true),if_neg (zap e6),if_pos (.inl (eq_of_beq e7))])
          have hlt:=zaM (o:=o) hi0
          have hout:=zaJ (i:=i) (o:=o)
          rw [HS.out] at hlt hout
          simp only at hlt hout
          have HN:Hid (zaS s.data.toList=zcv ([]) (o)):=Lib.hid (by rw [HD.out,zaL hi0,HS.out])
          have Hp1:=Lib.hid p1
          have Hp2:=Lib.hid p2
          have Hp3:=Lib.hid p3
          have Hp5:=Lib.hid p5
          clear p1 p2 p3 p5
          go_wp2_with fail
          refine (Tryz.strings_HasPrefix _ _ _).mono ?_
          rintro e w1 ⟨rfl,rfl⟩
          rw [zab,show Lib.hasPrefix i ({ data:=#[46,46,47] }:ByteArray).data.toList=false from Hp1.out]
          go_wp2_with fail
          refine (Tryz.strings_HasPrefix _ _ _).mono ?_
          rintro e w1 ⟨rfl,rfl⟩
          rw [zab,show Lib.hasPrefix i ({ data:=#[46,47] }:ByteArray).data.toList=false from Hp2.out]
          go_wp2_with fail
          refine (Tryz.strings_HasPrefix _ _ _).mono ?_
          rintro e w1 ⟨rfl,rfl⟩
          rw [zab,show Lib.hasPrefix i ({ data:=#[47,46,47] }:ByteArray).data.toList=false from Hp3.out]
          go_wp2_with fail
          refine (Tryz.strings_HasPrefix _ _ _).mono ?_
          rintro e w1 ⟨rfl,rfl⟩
          rw [zab,show Lib.hasPrefix i ({ data:=#[47,46,46,47] }:ByteArray).data.toList=false from Hp5.out]
          go_wp2_with fail
          go_roundw
          case rel => exact ⟨_,_,_,_,by omega,rfl,rfl,hrow,HN,hq⟩
          case measure => rw [zah,zah,zac]; exact hlt
        ·have HS:Hid (zax i o=([47],za6 o)):=Lib.hid (by unfold zax; rw [if_neg (by rw [p1]; exact Bool.false_ne_true),if_neg (by rw [p2]; exact Bool.false_ne_true),if_neg (by rw [p3]; exact Bool.false_ne_true),if_neg (zap e4),if_neg (by rw [p5]; exact Bool.false_ne_true),if_pos (eq_of_beq e6)])
         have hlt:=zaM (o:=o) hi0
         have hout:=zaJ (i:=i) (o:=o)
         rw [HS.out] at hlt hout
         simp only at hlt hout
         have HN:Hid (zaS s.data.toList=zcv ([47]) (za6 o)):=Lib.hid (by rw [HD.out,zaL hi0,HS.out])
         have Hp1:=Lib.hid p1
         have Hp2:=Lib.hid p2
         have Hp3:=Lib.hid p3
         have Hp5:=Lib.hid p5
         clear p1 p2 p3 p5
         go_wp2_with fail
         refine (Tryz.strings_HasPrefix _ _ _).mono ?_
         rintro e w1 ⟨rfl,rfl⟩
         rw [zab,show Lib.hasPrefix i ({ data:=#[46,46,47] }:ByteArray).data.toList=false from Hp1.out]
         go_wp2_with fail
         refine (Tryz.strings_HasPrefix _ _ _).mono ?_
         rintro e w1 ⟨rfl,rfl⟩
         rw [zab,show Lib.hasPrefix i ({ data:=#[46,47] }:ByteArray).data.toList=false from Hp2.out]
         go_wp2_with fail
         refine (Tryz.strings_HasPrefix _ _ _).mono ?_
         rintro e w1 ⟨rfl,rfl⟩
         rw [zab,show Lib.hasPrefix i ({ data:=#[47,46,47] }:ByteArray).data.toList=false from Hp3.out]
         go_wp2_with fail
         refine (Tryz.strings_HasPrefix _ _ _).mono ?_
         rintro e w1 ⟨rfl,rfl⟩
         rw [zab,show Lib.hasPrefix i ({ data:=#[47,46,46,47] }:ByteArray).data.toList=false from Hp5.out]
         have hrow1:=hrow.pre (za6 o).length (zew o)
         rw [← zgA] at hrow1
         go_wp2_with fail
         refine (zed g cap _ o _ hrow (by omega)).mono ?_
         rintro e w1 ⟨rfl,rfl⟩
         go_wp2_with fail
         go_roundw
         case rel => exact ⟨_,_,_,_,by omega,rfl,rfl,hrow1,HN,hq⟩
         case measure => rw [zah,zah,zac]; exact hlt
       ·have HS:Hid (zax i o=(i.drop 3,za6 o)):=Lib.hid (by unfold zax; rw [if_neg (by rw [p1]; exact Bool.false_ne_true),if_neg (by rw [p2]; exact Bool.false_ne_true),if_neg (by rw [p3]; exact Bool.false_ne_true),if_neg (zap e4),if_pos p5])
        have hlt:=zaM (o:=o) hi0
        have hout:=zaJ (i:=i) (o:=o)
        rw [HS.out] at hlt hout
        simp only at hlt hout
        have HN:Hid (zaS s.data.toList=zcv (i.drop 3) (za6 o)):=Lib.hid (by rw [HD.out,zaL hi0,HS.out])
        have hp3:3 ≤ i.length:=by have:=zdY p5; simp at this; omega
        have hx:=zaB (S i) 3
        rw [zac,zab] at hx
        have HX:=Lib.hid hx
        clear hx
        have Hp1:=Lib.hid p1
        have Hp2:=Lib.hid p2
        have Hp3:=Lib.hid p3
        have Hp5:=Lib.hid p5
        clear p1 p2 p3 p5
        go_wp2_with fail
        refine (Tryz.strings_HasPrefix _ _ _).mono ?_
        rintro e w1 ⟨rfl,rfl⟩
        rw [zab,show Lib.hasPrefix i ({ data:=#[46,46,47] }:ByteArray).data.toList=false from Hp1.out]
        go_wp2_with fail
        refine (Tryz.strings_HasPrefix _ _ _).mono ?_
        rintro e w1 ⟨rfl,rfl⟩
        rw [zab,show Lib.hasPrefix i ({ data:=#[46,47] }:ByteArray).data.toList=false from Hp2.out]
        go_wp2_with fail
        refine (Tryz.strings_HasPrefix _ _ _).mono ?_
        rintro e w1 ⟨rfl,rfl⟩
        rw [zab,show Lib.hasPrefix i ({ data:=#[47,46,47] }:ByteArray).data.toList=false from Hp3.out]
        go_wp2_with fail
        refine (Tryz.strings_HasPrefix _ _ _).mono ?_
        rintro e w1 ⟨rfl,rfl⟩
        rw [zab,show Lib.hasPrefix i ({ data:=#[47,46,46,47] }:ByteArray).data.toList=true from Hp5.out]
        have hrow1:=hrow.pre (za6 o).length (zew o)
        rw [← zgA] at hrow1
        go_wp2_with fail
        go_quiet ((go_at_call 249; exact zc8 (zed g cap _ o _ (hrow.drewN _) (by omega))))
        go_wp2_with fail
        go_roundw
        case rel => exact ⟨_,_,_,_,by omega,congrArg Value.string HX.out,rfl,hrow1.drewN _,HN,hq.drewN _⟩
        case measure => rw [HX.out,zah,zah,zac,zac]; exact hlt
      ·have HS:Hid (zax i o=([47],o)):=Lib.hid (by unfold zax; rw [if_neg (by rw [p1]; exact Bool.false_ne_true),if_neg (by rw [p2]; exact Bool.false_ne_true),if_neg (by rw [p3]; exact Bool.false_ne_true),if_pos (eq_of_beq e4)])
       have hlt:=zaM (o:=o) hi0
       have hout:=zaJ (i:=i) (o:=o)
       rw [HS.out] at hlt hout
       simp only at hlt hout
       have HN:Hid (zaS s.data.toList=zcv ([47]) (o)):=Lib.hid (by rw [HD.out,zaL hi0,HS.out])
       have Hp1:=Lib.hid p1
       have Hp2:=Lib.hid p2
       have Hp3:=Lib.hid p3
       clear p1 p2 p3
       go_wp2_with fail
       refine (Tryz.strings_HasPrefix _ _ _).mono ?_
       rintro e w1 ⟨rfl,rfl⟩
       rw [zab,show Lib.hasPrefix i ({ data:=#[46,46,47] }:ByteArray).data.toList=false from Hp1.out]
       go_wp2_with fail
       refine (Tryz.strings_HasPrefix _ _ _).mono ?_
       rintro e w1 ⟨rfl,rfl⟩
       rw [zab,show Lib.hasPrefix i ({ data:=#[46,47] }:ByteArray).data.toList=false from Hp2.out]
       go_wp2_with fail
       refine (Tryz.strings_HasPrefix _ _ _).mono ?_
       rintro e w1 ⟨rfl,rfl⟩
       rw [zab,show Lib.hasPrefix i ({ data:=#[47,46,47] }:ByteArray).data.toList=false from Hp3.out]
       go_wp2_with fail
       go_roundw
       case rel => exact ⟨_,_,_,_,by omega,rfl,rfl,hrow,HN,hq⟩
       case measure => rw [zah,zah,zac]; exact hlt
     ·have HS:Hid (zax i o=(i.drop 2,o)):=Lib.hid (by unfold zax; rw [if_neg (by rw [p1]; exact Bool.false_ne_true),if_neg (by rw [p2]; exact Bool.false_ne_true),if_pos p3])
      have hlt:=zaM (o:=o) hi0
      have hout:=zaJ (i:=i) (o:=o)
      rw [HS.out] at hlt hout
      simp only at hlt hout
      have HN:Hid (zaS s.data.toList=zcv (i.drop 2) (o)):=Lib.hid (by rw [HD.out,zaL hi0,HS.out])
      have hp2:2 ≤ i.length:=by have:=zdY p3; simp at this; omega
      have hx:=zaB (S i) 2
      rw [zac,zab] at hx
      have HX:=Lib.hid hx
      clear hx
      have Hp1:=Lib.hid p1
      have Hp2:=Lib.hid p2
      have Hp3:=Lib.hid p3
      clear p1 p2 p3
      go_wp2_with fail
      refine (Tryz.strings_HasPrefix _ _ _).mono ?_
      rintro e w1 ⟨rfl,rfl⟩
      rw [zab,show Lib.hasPrefix i ({ data:=#[46,46,47] }:ByteArray).data.toList=false from Hp1.out]
      go_wp2_with fail
      refine (Tryz.strings_HasPrefix _ _ _).mono ?_
      rintro e w1 ⟨rfl,rfl⟩
      rw [zab,show Lib.hasPrefix i ({ data:=#[46,47] }:ByteArray).data.toList=false from Hp2.out]
      go_wp2_with fail
      refine (Tryz.strings_HasPrefix _ _ _).mono ?_
      rintro e w1 ⟨rfl,rfl⟩
      rw [zab,show Lib.hasPrefix i ({ data:=#[47,46,47] }:ByteArray).data.toList=true from Hp3.out]
      go_wp2_with fail
      go_roundw
      case rel => exact ⟨_,_,_,_,by omega,congrArg Value.string HX.out,rfl,hrow,HN,hq⟩
      case measure => rw [HX.out,zah,zah,zac,zac]; exact hlt
    ·have HS:Hid (zax i o=(i.drop 2,o)):=Lib.hid (by unfold zax; rw [if_neg (by rw [p1]; exact Bool.false_ne_true),if_pos p2])
     have hlt:=zaM (o:=o) hi0
     have hout:=zaJ (i:=i) (o:=o)
     rw [HS.out] at hlt hout
     simp only at hlt hout
     have HN:Hid (zaS s.data.toList=zcv (i.drop 2) (o)):=Lib.hid (by rw [HD.out,zaL hi0,HS.out])
     have hp2:2 ≤ i.length:=by have:=zdY p2; simp at this; omega
     have hx:=zaB (S i) 2
     rw [zac,zab] at hx
     have HX:=Lib.hid hx
     clear hx
     have Hp1:=Lib.hid p1
     have Hp2:=Lib.hid p2
     clear p1 p2
     go_wp2_with fail
     refine (Tryz.strings_HasPrefix _ _ _).mono ?_
     rintro e w1 ⟨rfl,rfl⟩
     rw [zab,show Lib.hasPrefix i ({ data:=#[46,46,47] }:ByteArray).data.toList=false from Hp1.out]
     go_wp2_with fail
     refine (Tryz.strings_HasPrefix _ _ _).mono ?_
     rintro e w1 ⟨rfl,rfl⟩
     rw [zab,show Lib.hasPrefix i ({ data:=#[46,47] }:ByteArray).data.toList=true from Hp2.out]
     go_wp2_with fail
     go_roundw
     case rel => exact ⟨_,_,_,_,by omega,congrArg Value.string HX.out,rfl,hrow,HN,hq⟩
     case measure => rw [HX.out,zah,zah,zac,zac]; exact hlt
   ·have HS:Hid (zax i o=(i.drop 3,o)):=Lib.hid (by unfold zax; rw [if_pos p1])
    have hlt:=zaM (o:=o) hi0
    have hout:=zaJ (i:=i) (o:=o)
    rw [HS.out] at hlt hout
    simp only at hlt hout
    have HN:Hid (zaS s.data.toList=zcv (i.drop 3) (o)):=Lib.hid (by rw [HD.out,zaL hi0,HS.out])
    have hp3:3 ≤ i.length:=by have:=zdY p1; simp at this; omega
    have hx:=zaB (S i) 3
    rw [zac,zab] at hx
    have HX:=Lib.hid hx
    clear hx
    have Hp1:=Lib.hid p1
    clear p1
    go_wp2_with fail
    refine (Tryz.strings_HasPrefix _ _ _).mono ?_
    rintro e w1 ⟨rfl,rfl⟩
    rw [zab,show Lib.hasPrefix i ({ data:=#[46,46,47] }:ByteArray).data.toList=true from Hp1.out]
    go_wp2_with fail
    go_roundw
    case rel => exact ⟨_,_,_,_,by omega,congrArg Value.string HX.out,rfl,hrow,HN,hq⟩
    case measure => rw [HX.out,zah,zah,zac,zac]; exact hlt
end Go.Proofs.YtljbdpihiboeaaaGreatDoor
namespace Go.Proofs.YtljbdpihiboeaaaGreatDoor
open Go.RowKit Sx
def zbu (u:UriP):AV:=.agg [.s u.scheme,.s u.auth,.s u.path,.s u.query,.s u.frag,.b u.hs,.b u.ha,.b u.hq,.b u.hf]
section
variable [Tabs Tryz.prog] {objs:List OB} {K:List OB → AV → Prop}
theorem uSplit_k (s:List UInt8) (hk:K objs (.tup [zbu (zav s).2,.i .i64 (zav s).1])):zad Tryz.prog 187 [.s s] objs K:=by
 refine conv (vs:=[.string (S s)]) rfl rfl (fun w => ?_) hk
 rcases Nat.lt_or_ge 16384 s.length with h | h
 ·exact znC (S s) w (by rw [zac]; exact h)
 ·exact zla (S s) w (by rw [zac]; exact h)
theorem uDots_k (s:List UInt8) (hs:s.length ≤ 1000000) (hk:K objs (.s (zaS s))):zad Tryz.prog 215 [.s s] objs K :=
 conv (vs:=[.string (S s)]) rfl rfl (fun w => zoR (S s) w (by rw [zac]; exact hs)) hk
theorem ruDots_k (s:List UInt8) (hs:s.length ≤ 1000000) (hk:K objs (.s (zaS s))):zad Tryz.prog 143 [.s s] objs K :=
 conv (vs:=[.string (S s)]) rfl rfl (fun w => zoH (S s) w (by rw [zac]; exact hs)) hk
theorem zfg (s:List UInt8) (hs:s.length ≤ maxLen) (hk:K objs (.b (zbQ s))):zad Tryz.prog 172 [.s s] objs K :=
 zqs (vs:=[.string (S s)]) rfl rfl (fun w => zkB (S s) w (by rw [zac]; exact hs)) hk
end
end Go.Proofs.YtljbdpihiboeaaaGreatDoor
namespace Go.Proofs.YtljbdpihiboeaaaGreatDoor
open Nat renaming reduceAdd → z6, reduceSub → z7, reduceLeDiff → z8, reduceLT → j3, reduceMul → j6, reduceEqDiff → j7
open Int renaming reduceToNat → j8, reduceAdd → j9, reduceSub → x0, reduceMul → x5, reduceNeg → x6, reduceLT → x7, reduceLE → x8, reduceEq → x9, reduceNe → y3
open Go.RowKit Sx
theorem zfp (x:UInt8) (t set:List UInt8):zaz (x :: t) set=if zbb x set=true then 0 else zaz t set + 1:=by
 unfold zaz
 rw [List.findIdx_cons]
 cases zbb x set <;> rfl
theorem zer (c:UInt8):∀ l:List UInt8,(zaz l [c] < l.length → zaq c l=(l.take (zaz l [c]),l.drop (zaz l [c] + 1),true)) ∧ (¬ zaz l [c] < l.length → zaq c l=(l,[],false))
 | [] => ⟨fun h => absurd h (by simp),fun _ => rfl⟩
 | x :: t => by
  have ih:=zer c t
  rw [zfp,zcx]
  by_cases hx:x=c
  ·subst hx
   have:zbb x [x]=true:=by simp [zbb]
   rw [if_pos this,if_pos rfl]
   exact ⟨fun _ => by simp,fun h => absurd (by simp) h⟩
  ·have:¬ zbb x [c]=true:=by simp [zbb,hx]
   rw [if_neg this,if_neg hx]
   refine ⟨fun h => ?_,fun h => ?_⟩
   ·rw [ih.1 (by simp at h; omega)]; simp
   ·rw [ih.2 (by simp at h ⊢; omega)]
theorem zns (x:UInt8) (t:List UInt8):zat (x :: t)=if x=47 then [] else x :: zat t:=by
 unfold zat
 rw [zcx]
 split <;> rfl
theorem zfF:∀ l:List UInt8,(∀ h:zaz l [58,47] < l.length,l[zaz l [58,47]]=58 → (zaq 58 (zat l)).1=l.take (zaz l [58,47]) ∧ (zaq 58 (zat l)).1.length=zaz l [58,47] ∧ (zaq 58 (zat l)).2.2=true) ∧
  ((∀ h:zaz l [58,47] < l.length,l[zaz l [58,47]] ≠ 58) → (zaq 58 (zat l)).2.2=false)
 | [] => ⟨fun h => absurd h (by simp),fun _ => rfl⟩
 | x :: t => by
  have ih:=zfF t
  rw [zns]
  by_cases h47:x=47
  ·subst h47
   have e:zaz (47 :: t) [58,47]=0:=by rw [zfp,if_pos (by decide)]
   rw [if_pos rfl]
   refine ⟨fun h he => ?_,fun _ => rfl⟩
   simp only [e] at he
   exact absurd he (by simp)
  ·rw [if_neg h47,zcx]
   by_cases h58:x=58
   ·subst h58
    have e:zaz (58 :: t) [58,47]=0:=by rw [zfp,if_pos (by decide)]
    rw [if_pos rfl]
    refine ⟨fun h he => by simp [e],fun h => ?_⟩
    exact absurd (by simp [e]) (h (by simp [e]))
   ·have e:zaz (x :: t) [58,47]=zaz t [58,47] + 1:=by rw [zfp,if_neg (by simp [zbb,h47,h58])]
    rw [if_neg h58]
    simp only [e]
    refine ⟨fun h he => ?_,fun h => ?_⟩
    ·obtain ⟨h1,h2,h3⟩:=ih.1 (by simp at h; omega) (by simpa using he)
     exact ⟨by simp [h1],by simp [h2],h3⟩
    ·exact ih.2 (fun h' => by have:=h (by simp; omega); simpa using this)
theorem zcb (R:List UInt8):(R.take (2 + (((zat (R.drop 2)).length:Nat):Int)).toNat).drop 2=zat (R.drop 2):=by
 have hfe:=(zaI (R.drop 2)).1
 rw [show (2 + (((zat (R.drop 2)).length:Nat):Int)).toNat=2 + (zat (R.drop 2)).length by omega,← List.take_drop,← hfe]
theorem zbO (R:List UInt8):R.drop (2 + (((zat (R.drop 2)).length:Nat):Int)).toNat=(R.drop 2).drop (zat (R.drop 2)).length:=by
 rw [show (2 + (((zat (R.drop 2)).length:Nat):Int)).toNat=2 + (zat (R.drop 2)).length by omega,List.drop_drop]
def zbf (l2 fr qu:List UInt8) (bf bq:Bool):Int × UriP :=
 if ((zaq 58 (zat l2)).2.2 && !zbQ (zaq 58 (zat l2)).1)=true then (6,zfA)
 else
  let r:=if (zaq 58 (zat l2)).2.2=true then l2.drop ((zaq 58 (zat l2)).1.length + 1) else l2
  (0,{ scheme:=if (zaq 58 (zat l2)).2.2=true then (zaq 58 (zat l2)).1 else [],auth:=zbd r,path:=zby r,query:=qu,frag:=fr,hs:=(zaq 58 (zat l2)).2.2,ha:=zbK r,hq:=bq,hf:=bf })
theorem zkx {s l1 l2 fr qu:List UInt8} {bf bq:Bool} (h:¬ 16384 < s.length) (e1:zaq 35 s=(l1,fr,bf)) (e2:zaq 63 l1=(l2,qu,bq)):zav s=zbf l2 fr qu bf bq:=by
 unfold zav zbf zd1 zbw zcA
 rw [if_neg h,e1]
 simp only [e2]
section
variable [Tabs Tryz.prog] {objs:List OB} {K:List OB → AV → Prop}
set_option maxHeartbeats 4000000 in
theorem zof (s:List UInt8) (hs:s.length ≤ 140737488351232) (hk:K objs (.tup [zbu (zav s).2,.i .i64 (zav s).1])):zad Tryz.prog 141 [.s s] objs K:=by
 refine za1 is_ref06_Split rfl fun C _ => ?_
 by_cases hbig:(16384:Int) < ↑s.length
 ·unfold zav at hk
  rw [if_pos (by omega)] at hk
  simp only [c_ref06_Split,hbig,sxZ,z6,z7,z8,j3,j6,j7,j8,j9,x0,x5,x6,x7,x8,x9,y3,reduceCtorEq,↓reduceIte]
  exact hk
 ·have hm:maxLen=2 ^ 63 - 1:=rfl
  simp only [c_ref06_Split,hbig,sxZ,z6,z7,z8,j3,j6,j7,j8,j9,x0,x5,x6,x7,x8,x9,y3,reduceCtorEq,↓reduceIte]
  refine zae (zaZ s [35] (by omega) (by simp; omega) ?_)
  have hsf:∀ {l1 l2 fr qu:List UInt8} {bf bq:Bool},zaq 35 s=(l1,fr,bf) → zaq 63 l1=(l2,qu,bq) → K objs (.tup [zbu (zbf l2 fr qu bf bq).2,.i .i64 (zbf l2 fr qu bf bq).1]):=by
   intro l1 l2 fr qu bf bq e1 e2
   rw [zkx (by omega) e1 e2] at hk
   exact hk
  clear hk
  have c35:=zer 35 s
  by_cases h35:(↑(zaz s [35]):Int) < ↑s.length
  all_goals simp only [h35,sxZ,z6,z7,z8,j3,j6,j7,j8,j9,x0,x5,x6,x7,x8,x9,y3,reduceCtorEq,↓reduceIte]
  ·refine ⟨⟨by omega,by omega⟩,⟨by omega,by omega,by omega⟩,⟨by omega,by omega⟩,?_⟩
   have e35:=c35.1 (by omega)
   have hl1:(s.take (zaz s [35])).length ≤ s.length:=by rw [List.length_take]; omega
   clear c35
   generalize s.take (zaz s [35])=l1 at *
   generalize s.drop (zaz s [35] + 1)=fr at *
   have hsf2:=fun {l2 qu:List UInt8} {bq:Bool} => hsf (l2:=l2) (qu:=qu) (bq:=bq) e35
   refine zae (zaZ l1 [63] (by omega) (by simp; omega) ?_)
   have c63:=zer 63 l1
   by_cases h63:((zaz l1 [63]:Nat):Int) < ((l1.length:Nat):Int)
   all_goals simp only [h63,sxZ,z6,z7,z8,j3,j6,j7,j8,j9,x0,x5,x6,x7,x8,x9,y3,reduceCtorEq,↓reduceIte]
   ·refine ⟨⟨by omega,by omega⟩,⟨by omega,by omega,by omega⟩,⟨by omega,by omega⟩,?_⟩
    have e63:=hsf2 (c63.1 (by omega))
    have hl2:(l1.take (zaz l1 [63])).length ≤ s.length:=by rw [List.length_take]; omega
    clear c63
    generalize l1.take (zaz l1 [63])=l2 at *
    generalize l1.drop (zaz l1 [63] + 1)=qu at *
    refine zae (zaZ l2 [58,47] (by omega) (by simp; omega) ?_)
    have sch:=zfF l2
    by_cases h3:((zaz l2 [58,47]:Nat):Int) < ((l2.length:Nat):Int)
    ·have h3n:zaz l2 [58,47] < l2.length:=by omega
     have eg:l2.getD (zaz l2 [58,47]) 0=l2[zaz l2 [58,47]]:=by rw [List.getD_eq_getElem?_getD,List.getElem?_eq_getElem h3n]; rfl
     simp only [h3,sxZ,z6,z7,z8,j3,j6,j7,j8,j9,x0,x5,x6,x7,x8,x9,y3,reduceCtorEq,↓reduceIte]
     refine ⟨by omega,?_⟩
     rw [eg]
     by_cases h58:l2[zaz l2 [58,47]]=58
     ·have e58:((l2[zaz l2 [58,47]].toNat:Nat):Int)=58:=by rw [h58]; rfl
      obtain ⟨q1,q2,q3⟩:=sch.1 h3n h58
      simp only [e58,sxZ,z6,z7,z8,j3,j6,j7,j8,j9,x0,x5,x6,x7,x8,x9,y3,reduceCtorEq,↓reduceIte]
      refine ⟨⟨by omega,by omega⟩,?_⟩
      have htl:(l2.take (zaz l2 [58,47])).length ≤ l2.length:=by rw [List.length_take]; omega
      refine zae (zfg _ (by omega) ?_)
      by_cases hsc:zbQ (l2.take (zaz l2 [58,47]))=true
      ·simp only [hsc,sxZ,z6,z7,z8,j3,j6,j7,j8,j9,x0,x5,x6,x7,x8,x9,y3,reduceCtorEq,↓reduceIte]
       refine ⟨⟨by omega,by omega⟩,⟨by omega,by omega⟩,⟨by omega,by omega,by omega⟩,?_⟩
       have hdl:(l2.drop (zaz l2 [58,47] + 1)).length ≤ l2.length:=by rw [List.length_drop]; omega
       have hq5:min (zaz l2 [58,47]) l2.length=zaz l2 [58,47]:=by omega
       have q4:(zaq 58 (zat l2)).1.length=zaz l2 [58,47]:=q2
       refine zae (zbG (l2.drop (zaz l2 [58,47] + 1)) [47,47] (by first | omega | (simp; omega)) ?_)
       by_cases h2s:Lib.hasPrefix (l2.drop (zaz l2 [58,47] + 1)) [47,47]=true
       ·have t2:=zbv h2s
        have hfl:=(zaI ((l2.drop (zaz l2 [58,47] + 1)).drop 2)).2
        have hix:zaz ((l2.drop (zaz l2 [58,47] + 1)).drop 2) [47]=(zat ((l2.drop (zaz l2 [58,47] + 1)).drop 2)).length:=zbz 47 _
        have hd2:((l2.drop (zaz l2 [58,47] + 1)).drop 2).length=(l2.drop (zaz l2 [58,47] + 1)).length - 2:=List.length_drop ..
        simp only [h2s,sxZ,z6,z7,z8,j3,j6,j7,j8,j9,x0,x5,x6,x7,x8,x9,y3,reduceCtorEq,↓reduceIte]
        refine ⟨?_,?_⟩
        ·first | omega | exact ⟨by omega,by omega⟩ | exact ⟨by omega,by omega,by omega⟩
        refine zae (zaZ _ [47] (by omega) (by simp; omega) ?_)
        rw [hix]
        simp only [sxZ,z6,z7,z8,j3,j6,j7,j8,j9,x0,x5,x6,x7,x8,x9,y3,reduceCtorEq,↓reduceIte]
        have h2t:zbK (l2.drop (zaz l2 [58,47] + 1))=true:=h2s
        simp only [zbf,q1,q3,hsc,List.length_take,hq5,h2t,zbd,zby,zbu,sxZ,z6,z7,z8,j3,j6,j7,j8,j9,x0,x5,x6,x7,x8,x9,y3,reduceCtorEq,↓reduceIte] at e63
        rw [zcb,zbO]
        refine ⟨?_,?_,?_,e63⟩
        ·first | omega | exact ⟨by omega,by omega⟩ | exact ⟨by omega,by omega,by omega⟩
        ·first | omega | exact ⟨by omega,by omega⟩ | exact ⟨by omega,by omega,by omega⟩
        ·first | omega | exact ⟨by omega,by omega⟩ | exact ⟨by omega,by omega,by omega⟩
       ·have h2t:¬ zbK (l2.drop (zaz l2 [58,47] + 1))=true:=h2s
        simp only [h2s,sxZ,z6,z7,z8,j3,j6,j7,j8,j9,x0,x5,x6,x7,x8,x9,y3,reduceCtorEq,↓reduceIte]
        simp only [zbf,q1,q3,hsc,List.length_take,hq5,h2t,zbd,zby,zbu,sxZ,z6,z7,z8,j3,j6,j7,j8,j9,x0,x5,x6,x7,x8,x9,y3,reduceCtorEq,↓reduceIte] at e63
        exact e63
      ·simp only [hsc,sxZ,z6,z7,z8,j3,j6,j7,j8,j9,x0,x5,x6,x7,x8,x9,y3,reduceCtorEq,↓reduceIte]
       simp only [zbf,q1,q3,hsc,zfA,zbu,sxZ,z6,z7,z8,j3,j6,j7,j8,j9,x0,x5,x6,x7,x8,x9,y3,reduceCtorEq,↓reduceIte] at e63
       exact e63
     ·have e58:¬ ((l2[zaz l2 [58,47]].toNat:Nat):Int)=58:=fun e => h58 (UInt8.toNat_inj.1 (by have:(58:UInt8).toNat=58:=rfl; omega))
      have q3:=sch.2 (fun _ => h58)
      simp only [e58,sxZ,z6,z7,z8,j3,j6,j7,j8,j9,x0,x5,x6,x7,x8,x9,y3,reduceCtorEq,↓reduceIte]
      refine zae (zbG (l2) [47,47] (by first | omega | (simp; omega)) ?_)
      by_cases h2s:Lib.hasPrefix (l2) [47,47]=true
      ·have t2:=zbv h2s
       have hfl:=(zaI ((l2).drop 2)).2
       have hix:zaz ((l2).drop 2) [47]=(zat ((l2).drop 2)).length:=zbz 47 _
       have hd2:((l2).drop 2).length=(l2).length - 2:=List.length_drop ..
       simp only [h2s,sxZ,z6,z7,z8,j3,j6,j7,j8,j9,x0,x5,x6,x7,x8,x9,y3,reduceCtorEq,↓reduceIte]
       refine ⟨?_,?_⟩
       ·first | omega | exact ⟨by omega,by omega⟩ | exact ⟨by omega,by omega,by omega⟩
       refine zae (zaZ _ [47] (by omega) (by simp; omega) ?_)
       rw [hix]
       simp only [sxZ,z6,z7,z8,j3,j6,j7,j8,j9,x0,x5,x6,x7,x8,x9,y3,reduceCtorEq,↓reduceIte]
       have h2t:zbK (l2)=true:=h2s
       simp only [zbf,q3,h2t,zbd,zby,zbu,sxZ,z6,z7,z8,j3,j6,j7,j8,j9,x0,x5,x6,x7,x8,x9,y3,reduceCtorEq,↓reduceIte] at e63
       rw [zcb,zbO]
       refine ⟨?_,?_,?_,e63⟩
       ·first | omega | exact ⟨by omega,by omega⟩ | exact ⟨by omega,by omega,by omega⟩
       ·first | omega | exact ⟨by omega,by omega⟩ | exact ⟨by omega,by omega,by omega⟩
       ·first | omega | exact ⟨by omega,by omega⟩ | exact ⟨by omega,by omega,by omega⟩
      ·have h2t:¬ zbK (l2)=true:=h2s
       simp only [h2s,sxZ,z6,z7,z8,j3,j6,j7,j8,j9,x0,x5,x6,x7,x8,x9,y3,reduceCtorEq,↓reduceIte]
       simp only [zbf,q3,h2t,zbd,zby,zbu,sxZ,z6,z7,z8,j3,j6,j7,j8,j9,x0,x5,x6,x7,x8,x9,y3,reduceCtorEq,↓reduceIte] at e63
       exact e63
    ·have q3:=sch.2 (fun h => absurd h (by omega))
     simp only [h3,sxZ,z6,z7,z8,j3,j6,j7,j8,j9,x0,x5,x6,x7,x8,x9,y3,reduceCtorEq,↓reduceIte]
     refine zae (zbG (l2) [47,47] (by first | omega | (simp; omega)) ?_)
     by_cases h2s:Lib.hasPrefix (l2) [47,47]=true
     ·have t2:=zbv h2s
      have hfl:=(zaI ((l2).drop 2)).2
      have hix:zaz ((l2).drop 2) [47]=(zat ((l2).drop 2)).length:=zbz 47 _
      have hd2:((l2).drop 2).length=(l2).length - 2:=List.length_drop ..
      simp only [h2s,sxZ,z6,z7,z8,j3,j6,j7,j8,j9,x0,x5,x6,x7,x8,x9,y3,reduceCtorEq,↓reduceIte]
      refine ⟨?_,?_⟩
      ·first | omega | exact ⟨by omega,by omega⟩ | exact ⟨by omega,by omega,by omega⟩
      refine zae (zaZ _ [47] (by omega) (by simp; omega) ?_)
      rw [hix]
      simp only [sxZ,z6,z7,z8,j3,j6,j7,j8,j9,x0,x5,x6,x7,x8,x9,y3,reduceCtorEq,↓reduceIte]
      have h2t:zbK (l2)=true:=h2s
      simp only [zbf,q3,h2t,zbd,zby,zbu,sxZ,z6,z7,z8,j3,j6,j7,j8,j9,x0,x5,x6,x7,x8,x9,y3,reduceCtorEq,↓reduceIte] at e63
      rw [zcb,zbO]
      refine ⟨?_,?_,?_,e63⟩
      ·first | omega | exact ⟨by omega,by omega⟩ | exact ⟨by omega,by omega,by omega⟩
      ·first | omega | exact ⟨by omega,by omega⟩ | exact ⟨by omega,by omega,by omega⟩
      ·first | omega | exact ⟨by omega,by omega⟩ | exact ⟨by omega,by omega,by omega⟩
     ·have h2t:¬ zbK (l2)=true:=h2s
      simp only [h2s,sxZ,z6,z7,z8,j3,j6,j7,j8,j9,x0,x5,x6,x7,x8,x9,y3,reduceCtorEq,↓reduceIte]
      simp only [zbf,q3,h2t,zbd,zby,zbu,sxZ,z6,z7,z8,j3,j6,j7,j8,j9,x0,x5,x6,x7,x8,x9,y3,reduceCtorEq,↓reduceIte] at e63
      exact e63
   ·have e63:=hsf2 (c63.2 (by omega))
    refine zae (zaZ l1 [58,47] (by omega) (by simp; omega) ?_)
    have sch:=zfF l1
    by_cases h3:((zaz l1 [58,47]:Nat):Int) < ((l1.length:Nat):Int)
    ·have h3n:zaz l1 [58,47] < l1.length:=by omega
     have eg:l1.getD (zaz l1 [58,47]) 0=l1[zaz l1 [58,47]]:=by rw [List.getD_eq_getElem?_getD,List.getElem?_eq_getElem h3n]; rfl
     simp only [h3,sxZ,z6,z7,z8,j3,j6,j7,j8,j9,x0,x5,x6,x7,x8,x9,y3,reduceCtorEq,↓reduceIte]
     refine ⟨by omega,?_⟩
     rw [eg]
     by_cases h58:l1[zaz l1 [58,47]]=58
     ·have e58:((l1[zaz l1 [58,47]].toNat:Nat):Int)=58:=by rw [h58]; rfl
      obtain ⟨q1,q2,q3⟩:=sch.1 h3n h58
      simp only [e58,sxZ,z6,z7,z8,j3,j6,j7,j8,j9,x0,x5,x6,x7,x8,x9,y3,reduceCtorEq,↓reduceIte]
      refine ⟨⟨by omega,by omega⟩,?_⟩
      have htl:(l1.take (zaz l1 [58,47])).length ≤ l1.length:=by rw [List.length_take]; omega
      refine zae (zfg _ (by omega) ?_)
      by_cases hsc:zbQ (l1.take (zaz l1 [58,47]))=true
      ·simp only [hsc,sxZ,z6,z7,z8,j3,j6,j7,j8,j9,x0,x5,x6,x7,x8,x9,y3,reduceCtorEq,↓reduceIte]
       refine ⟨⟨by omega,by omega⟩,⟨by omega,by omega⟩,⟨by omega,by omega,by omega⟩,?_⟩
       have hdl:(l1.drop (zaz l1 [58,47] + 1)).length ≤ l1.length:=by rw [List.length_drop]; omega
       have hq5:min (zaz l1 [58,47]) l1.length=zaz l1 [58,47]:=by omega
       have q4:(zaq 58 (zat l1)).1.length=zaz l1 [58,47]:=q2
       refine zae (zbG (l1.drop (zaz l1 [58,47] + 1)) [47,47] (by first | omega | (simp; omega)) ?_)
       by_cases h2s:Lib.hasPrefix (l1.drop (zaz l1 [58,47] + 1)) [47,47]=true
       ·have t2:=zbv h2s
        have hfl:=(zaI ((l1.drop (zaz l1 [58,47] + 1)).drop 2)).2
        have hix:zaz ((l1.drop (zaz l1 [58,47] + 1)).drop 2) [47]=(zat ((l1.drop (zaz l1 [58,47] + 1)).drop 2)).length:=zbz 47 _
        have hd2:((l1.drop (zaz l1 [58,47] + 1)).drop 2).length=(l1.drop (zaz l1 [58,47] + 1)).length - 2:=List.length_drop ..
        simp only [h2s,sxZ,z6,z7,z8,j3,j6,j7,j8,j9,x0,x5,x6,x7,x8,x9,y3,reduceCtorEq,↓reduceIte]
        refine ⟨?_,?_⟩
        ·first | omega | exact ⟨by omega,by omega⟩ | exact ⟨by omega,by omega,by omega⟩
        refine zae (zaZ _ [47] (by omega) (by simp; omega) ?_)
        rw [hix]
        simp only [sxZ,z6,z7,z8,j3,j6,j7,j8,j9,x0,x5,x6,x7,x8,x9,y3,reduceCtorEq,↓reduceIte]
        have h2t:zbK (l1.drop (zaz l1 [58,47] + 1))=true:=h2s
        simp only [zbf,q1,q3,hsc,List.length_take,hq5,h2t,zbd,zby,zbu,sxZ,z6,z7,z8,j3,j6,j7,j8,j9,x0,x5,x6,x7,x8,x9,y3,reduceCtorEq,↓reduceIte] at e63
        rw [zcb,zbO]
        refine ⟨?_,?_,?_,e63⟩
        ·first | omega | exact ⟨by omega,by omega⟩ | exact ⟨by omega,by omega,by omega⟩
        ·first | omega | exact ⟨by omega,by omega⟩ | exact ⟨by omega,by omega,by omega⟩
        ·first | omega | exact ⟨by omega,by omega⟩ | exact ⟨by omega,by omega,by omega⟩
       ·have h2t:¬ zbK (l1.drop (zaz l1 [58,47] + 1))=true:=h2s
        simp only [h2s,sxZ,z6,z7,z8,j3,j6,j7,j8,j9,x0,x5,x6,x7,x8,x9,y3,reduceCtorEq,↓reduceIte]
        simp only [zbf,q1,q3,hsc,List.length_take,hq5,h2t,zbd,zby,zbu,sxZ,z6,z7,z8,j3,j6,j7,j8,j9,x0,x5,x6,x7,x8,x9,y3,reduceCtorEq,↓reduceIte] at e63
        exact e63
      ·simp only [hsc,sxZ,z6,z7,z8,j3,j6,j7,j8,j9,x0,x5,x6,x7,x8,x9,y3,reduceCtorEq,↓reduceIte]
       simp only [zbf,q1,q3,hsc,zfA,zbu,sxZ,z6,z7,z8,j3,j6,j7,j8,j9,x0,x5,x6,x7,x8,x9,y3,reduceCtorEq,↓reduceIte] at e63
       exact e63
     ·have e58:¬ ((l1[zaz l1 [58,47]].toNat:Nat):Int)=58:=fun e => h58 (UInt8.toNat_inj.1 (by have:(58:UInt8).toNat=58:=rfl; omega))
      have q3:=sch.2 (fun _ => h58)
      simp only [e58,sxZ,z6,z7,z8,j3,j6,j7,j8,j9,x0,x5,x6,x7,x8,x9,y3,reduceCtorEq,↓reduceIte]
      refine zae (zbG (l1) [47,47] (by first | omega | (simp; omega)) ?_)
      by_cases h2s:Lib.hasPrefix (l1) [47,47]=true
      ·have t2:=zbv h2s
       have hfl:=(zaI ((l1).drop 2)).2
       have hix:zaz ((l1).drop 2) [47]=(zat ((l1).drop 2)).length:=zbz 47 _
       have hd2:((l1).drop 2).length=(l1).length - 2:=List.length_drop ..
       simp only [h2s,sxZ,z6,z7,z8,j3,j6,j7,j8,j9,x0,x5,x6,x7,x8,x9,y3,reduceCtorEq,↓reduceIte]
       refine ⟨?_,?_⟩
       ·first | omega | exact ⟨by omega,by omega⟩ | exact ⟨by omega,by omega,by omega⟩
       refine zae (zaZ _ [47] (by omega) (by simp; omega) ?_)
       rw [hix]
       simp only [sxZ,z6,z7,z8,j3,j6,j7,j8,j9,x0,x5,x6,x7,x8,x9,y3,reduceCtorEq,↓reduceIte]
       have h2t:zbK (l1)=true:=h2s
       simp only [zbf,q3,h2t,zbd,zby,zbu,sxZ,z6,z7,z8,j3,j6,j7,j8,j9,x0,x5,x6,x7,x8,x9,y3,reduceCtorEq,↓reduceIte] at e63
       rw [zcb,zbO]
       refine ⟨?_,?_,?_,e63⟩
       ·first | omega | exact ⟨by omega,by omega⟩ | exact ⟨by omega,by omega,by omega⟩
       ·first | omega | exact ⟨by omega,by omega⟩ | exact ⟨by omega,by omega,by omega⟩
       ·first | omega | exact ⟨by omega,by omega⟩ | exact ⟨by omega,by omega,by omega⟩
      ·have h2t:¬ zbK (l1)=true:=h2s
       simp only [h2s,sxZ,z6,z7,z8,j3,j6,j7,j8,j9,x0,x5,x6,x7,x8,x9,y3,reduceCtorEq,↓reduceIte]
       simp only [zbf,q3,h2t,zbd,zby,zbu,sxZ,z6,z7,z8,j3,j6,j7,j8,j9,x0,x5,x6,x7,x8,x9,y3,reduceCtorEq,↓reduceIte] at e63
       exact e63
    ·have q3:=sch.2 (fun h => absurd h (by omega))
     simp only [h3,sxZ,z6,z7,z8,j3,j6,j7,j8,j9,x0,x5,x6,x7,x8,x9,y3,reduceCtorEq,↓reduceIte]
     refine zae (zbG (l1) [47,47] (by first | omega | (simp; omega)) ?_)
     by_cases h2s:Lib.hasPrefix (l1) [47,47]=true
     ·have t2:=zbv h2s
      have hfl:=(zaI ((l1).drop 2)).2
      have hix:zaz ((l1).drop 2) [47]=(zat ((l1).drop 2)).length:=zbz 47 _
      have hd2:((l1).drop 2).length=(l1).length - 2:=List.length_drop ..
      simp only [h2s,sxZ,z6,z7,z8,j3,j6,j7,j8,j9,x0,x5,x6,x7,x8,x9,y3,reduceCtorEq,↓reduceIte]
      refine ⟨?_,?_⟩
      ·first | omega | exact ⟨by omega,by omega⟩ | exact ⟨by omega,by omega,by omega⟩
      refine zae (zaZ _ [47] (by omega) (by simp; omega) ?_)
      rw [hix]
      simp only [sxZ,z6,z7,z8,j3,j6,j7,j8,j9,x0,x5,x6,x7,x8,x9,y3,reduceCtorEq,↓reduceIte]
      have h2t:zbK (l1)=true:=h2s
      simp only [zbf,q3,h2t,zbd,zby,zbu,sxZ,z6,z7,z8,j3,j6,j7,j8,j9,x0,x5,x6,x7,x8,x9,y3,reduceCtorEq,↓reduceIte] at e63
      rw [zcb,zbO]
      refine ⟨?_,?_,?_,e63⟩
      ·first | omega | exact ⟨by omega,by omega⟩ | exact ⟨by omega,by omega,by omega⟩
      ·first | omega | exact ⟨by omega,by omega⟩ | exact ⟨by omega,by omega,by omega⟩
      ·first | omega | exact ⟨by omega,by omega⟩ | exact ⟨by omega,by omega,by omega⟩
     ·have h2t:¬ zbK (l1)=true:=h2s
      simp only [h2s,sxZ,z6,z7,z8,j3,j6,j7,j8,j9,x0,x5,x6,x7,x8,x9,y3,reduceCtorEq,↓reduceIte]
      simp only [zbf,q3,h2t,zbd,zby,zbu,sxZ,z6,z7,z8,j3,j6,j7,j8,j9,x0,x5,x6,x7,x8,x9,y3,reduceCtorEq,↓reduceIte] at e63
      exact e63
  ·have e35:=c35.2 (by omega)
   have hsf2:=fun {l2 qu:List UInt8} {bq:Bool} => hsf (l2:=l2) (qu:=qu) (bq:=bq) e35
   refine zae (zaZ s [63] (by omega) (by simp; omega) ?_)
   have c63:=zer 63 s
   by_cases h63:((zaz s [63]:Nat):Int) < ((s.length:Nat):Int)
   all_goals simp only [h63,sxZ,z6,z7,z8,j3,j6,j7,j8,j9,x0,x5,x6,x7,x8,x9,y3,reduceCtorEq,↓reduceIte]
   ·refine ⟨⟨by omega,by omega⟩,⟨by omega,by omega,by omega⟩,⟨by omega,by omega⟩,?_⟩
    have e63:=hsf2 (c63.1 (by omega))
    have hl2:(s.take (zaz s [63])).length ≤ s.length:=by rw [List.length_take]; omega
    clear c63
    generalize s.take (zaz s [63])=l2 at *
    generalize s.drop (zaz s [63] + 1)=qu at *
    refine zae (zaZ l2 [58,47] (by omega) (by simp; omega) ?_)
    have sch:=zfF l2
    by_cases h3:((zaz l2 [58,47]:Nat):Int) < ((l2.length:Nat):Int)
    ·have h3n:zaz l2 [58,47] < l2.length:=by omega
     have eg:l2.getD (zaz l2 [58,47]) 0=l2[zaz l2 [58,47]]:=by rw [List.getD_eq_getElem?_getD,List.getElem?_eq_getElem h3n]; rfl
     simp only [h3,sxZ,z6,z7,z8,j3,j6,j7,j8,j9,x0,x5,x6,x7,x8,x9,y3,reduceCtorEq,↓reduceIte]
     refine ⟨by omega,?_⟩
     rw [eg]
     by_cases h58:l2[zaz l2 [58,47]]=58
     ·have e58:((l2[zaz l2 [58,47]].toNat:Nat):Int)=58:=by rw [h58]; rfl
      obtain ⟨q1,q2,q3⟩:=sch.1 h3n h58
      simp only [e58,sxZ,z6,z7,z8,j3,j6,j7,j8,j9,x0,x5,x6,x7,x8,x9,y3,reduceCtorEq,↓reduceIte]
      refine ⟨⟨by omega,by omega⟩,?_⟩
      have htl:(l2.take (zaz l2 [58,47])).length ≤ l2.length:=by rw [List.length_take]; omega
      refine zae (zfg _ (by omega) ?_)
      by_cases hsc:zbQ (l2.take (zaz l2 [58,47]))=true
      ·simp only [hsc,sxZ,z6,z7,z8,j3,j6,j7,j8,j9,x0,x5,x6,x7,x8,x9,y3,reduceCtorEq,↓reduceIte]
       refine ⟨⟨by omega,by omega⟩,⟨by omega,by omega⟩,⟨by omega,by omega,by omega⟩,?_⟩
       have hdl:(l2.drop (zaz l2 [58,47] + 1)).length ≤ l2.length:=by rw [List.length_drop]; omega
       have hq5:min (zaz l2 [58,47]) l2.length=zaz l2 [58,47]:=by omega
       have q4:(zaq 58 (zat l2)).1.length=zaz l2 [58,47]:=q2
       refine zae (zbG (l2.drop (zaz l2 [58,47] + 1)) [47,47] (by first | omega | (simp; omega)) ?_)
       by_cases h2s:Lib.hasPrefix (l2.drop (zaz l2 [58,47] + 1)) [47,47]=true
       ·have t2:=zbv h2s
        have hfl:=(zaI ((l2.drop (zaz l2 [58,47] + 1)).drop 2)).2
        have hix:zaz ((l2.drop (zaz l2 [58,47] + 1)).drop 2) [47]=(zat ((l2.drop (zaz l2 [58,47] + 1)).drop 2)).length:=zbz 47 _
        have hd2:((l2.drop (zaz l2 [58,47] + 1)).drop 2).length=(l2.drop (zaz l2 [58,47] + 1)).length - 2:=List.length_drop ..
        simp only [h2s,sxZ,z6,z7,z8,j3,j6,j7,j8,j9,x0,x5,x6,x7,x8,x9,y3,reduceCtorEq,↓reduceIte]
        refine ⟨?_,?_⟩
        ·first | omega | exact ⟨by omega,by omega⟩ | exact ⟨by omega,by omega,by omega⟩
        refine zae (zaZ _ [47] (by omega) (by simp; omega) ?_)
        rw [hix]
        simp only [sxZ,z6,z7,z8,j3,j6,j7,j8,j9,x0,x5,x6,x7,x8,x9,y3,reduceCtorEq,↓reduceIte]
        have h2t:zbK (l2.drop (zaz l2 [58,47] + 1))=true:=h2s
        simp only [zbf,q1,q3,hsc,List.length_take,hq5,h2t,zbd,zby,zbu,sxZ,z6,z7,z8,j3,j6,j7,j8,j9,x0,x5,x6,x7,x8,x9,y3,reduceCtorEq,↓reduceIte] at e63
        rw [zcb,zbO]
        refine ⟨?_,?_,?_,e63⟩
        ·first | omega | exact ⟨by omega,by omega⟩ | exact ⟨by omega,by omega,by omega⟩
        ·first | omega | exact ⟨by omega,by omega⟩ | exact ⟨by omega,by omega,by omega⟩
        ·first | omega | exact ⟨by omega,by omega⟩ | exact ⟨by omega,by omega,by omega⟩
       ·have h2t:¬ zbK (l2.drop (zaz l2 [58,47] + 1))=true:=h2s
        simp only [h2s,sxZ,z6,z7,z8,j3,j6,j7,j8,j9,x0,x5,x6,x7,x8,x9,y3,reduceCtorEq,↓reduceIte]
        simp only [zbf,q1,q3,hsc,List.length_take,hq5,h2t,zbd,zby,zbu,sxZ,z6,z7,z8,j3,j6,j7,j8,j9,x0,x5,x6,x7,x8,x9,y3,reduceCtorEq,↓reduceIte] at e63
        exact e63
      ·simp only [hsc,sxZ,z6,z7,z8,j3,j6,j7,j8,j9,x0,x5,x6,x7,x8,x9,y3,reduceCtorEq,↓reduceIte]
       simp only [zbf,q1,q3,hsc,zfA,zbu,sxZ,z6,z7,z8,j3,j6,j7,j8,j9,x0,x5,x6,x7,x8,x9,y3,reduceCtorEq,↓reduceIte] at e63
       exact e63
     ·have e58:¬ ((l2[zaz l2 [58,47]].toNat:Nat):Int)=58:=fun e => h58 (UInt8.toNat_inj.1 (by have:(58:UInt8).toNat=58:=rfl; omega))
      have q3:=sch.2 (fun _ => h58)
      simp only [e58,sxZ,z6,z7,z8,j3,j6,j7,j8,j9,x0,x5,x6,x7,x8,x9,y3,reduceCtorEq,↓reduceIte]
      refine zae (zbG (l2) [47,47] (by first | omega | (simp; omega)) ?_)
      by_cases h2s:Lib.hasPrefix (l2) [47,47]=true
      ·have t2:=zbv h2s
       have hfl:=(zaI ((l2).drop 2)).2
       have hix:zaz ((l2).drop 2) [47]=(zat ((l2).drop 2)).length:=zbz 47 _
       have hd2:((l2).drop 2).length=(l2).length - 2:=List.length_drop ..
       simp only [h2s,sxZ,z6,z7,z8,j3,j6,j7,j8,j9,x0,x5,x6,x7,x8,x9,y3,reduceCtorEq,↓reduceIte]
       refine ⟨?_,?_⟩
       ·first | omega | exact ⟨by omega,by omega⟩ | exact ⟨by omega,by omega,by omega⟩
       refine zae (zaZ _ [47] (by omega) (by simp; omega) ?_)
       rw [hix]
       simp only [sxZ,z6,z7,z8,j3,j6,j7,j8,j9,x0,x5,x6,x7,x8,x9,y3,reduceCtorEq,↓reduceIte]
       have h2t:zbK (l2)=true:=h2s
       simp only [zbf,q3,h2t,zbd,zby,zbu,sxZ,z6,z7,z8,j3,j6,j7,j8,j9,x0,x5,x6,x7,x8,x9,y3,reduceCtorEq,↓reduceIte] at e63
       rw [zcb,zbO]
       refine ⟨?_,?_,?_,e63⟩
       ·first | omega | exact ⟨by omega,by omega⟩ | exact ⟨by omega,by omega,by omega⟩
       ·first | omega | exact ⟨by omega,by omega⟩ | exact ⟨by omega,by omega,by omega⟩
       ·first | omega | exact ⟨by omega,by omega⟩ | exact ⟨by omega,by omega,by omega⟩
      ·have h2t:¬ zbK (l2)=true:=h2s
       simp only [h2s,sxZ,z6,z7,z8,j3,j6,j7,j8,j9,x0,x5,x6,x7,x8,x9,y3,reduceCtorEq,↓reduceIte]
       simp only [zbf,q3,h2t,zbd,zby,zbu,sxZ,z6,z7,z8,j3,j6,j7,j8,j9,x0,x5,x6,x7,x8,x9,y3,reduceCtorEq,↓reduceIte] at e63
       exact e63
    ·have q3:=sch.2 (fun h => absurd h (by omega))
     simp only [h3,sxZ,z6,z7,z8,j3,j6,j7,j8,j9,x0,x5,x6,x7,x8,x9,y3,reduceCtorEq,↓reduceIte]
     refine zae (zbG (l2) [47,47] (by first | omega | (simp; omega)) ?_)
     by_cases h2s:Lib.hasPrefix (l2) [47,47]=true
     ·have t2:=zbv h2s
      have hfl:=(zaI ((l2).drop 2)).2
      have hix:zaz ((l2).drop 2) [47]=(zat ((l2).drop 2)).length:=zbz 47 _
      have hd2:((l2).drop 2).length=(l2).length - 2:=List.length_drop ..
      simp only [h2s,sxZ,z6,z7,z8,j3,j6,j7,j8,j9,x0,x5,x6,x7,x8,x9,y3,reduceCtorEq,↓reduceIte]
      refine ⟨?_,?_⟩
      ·first | omega | exact ⟨by omega,by omega⟩ | exact ⟨by omega,by omega,by omega⟩
      refine zae (zaZ _ [47] (by omega) (by simp; omega) ?_)
      rw [hix]
      simp only [sxZ,z6,z7,z8,j3,j6,j7,j8,j9,x0,x5,x6,x7,x8,x9,y3,reduceCtorEq,↓reduceIte]
      have h2t:zbK (l2)=true:=h2s
      simp only [zbf,q3,h2t,zbd,zby,zbu,sxZ,z6,z7,z8,j3,j6,j7,j8,j9,x0,x5,x6,x7,x8,x9,y3,reduceCtorEq,↓reduceIte] at e63
      rw [zcb,zbO]
      refine ⟨?_,?_,?_,e63⟩
      ·first | omega | exact ⟨by omega,by omega⟩ | exact ⟨by omega,by omega,by omega⟩
      ·first | omega | exact ⟨by omega,by omega⟩ | exact ⟨by omega,by omega,by omega⟩
      ·first | omega | exact ⟨by omega,by omega⟩ | exact ⟨by omega,by omega,by omega⟩
     ·have h2t:¬ zbK (l2)=true:=h2s
      simp only [h2s,sxZ,z6,z7,z8,j3,j6,j7,j8,j9,x0,x5,x6,x7,x8,x9,y3,reduceCtorEq,↓reduceIte]
      simp only [zbf,q3,h2t,zbd,zby,zbu,sxZ,z6,z7,z8,j3,j6,j7,j8,j9,x0,x5,x6,x7,x8,x9,y3,reduceCtorEq,↓reduceIte] at e63
      exact e63
   ·have e63:=hsf2 (c63.2 (by omega))
    refine zae (zaZ s [58,47] (by omega) (by simp; omega) ?_)
    have sch:=zfF s
    by_cases h3:((zaz s [58,47]:Nat):Int) < ((s.length:Nat):Int)
    ·have h3n:zaz s [58,47] < s.length:=by omega
     have eg:s.getD (zaz s [58,47]) 0=s[zaz s [58,47]]:=by rw [List.getD_eq_getElem?_getD,List.getElem?_eq_getElem h3n]; rfl
     simp only [h3,sxZ,z6,z7,z8,j3,j6,j7,j8,j9,x0,x5,x6,x7,x8,x9,y3,reduceCtorEq,↓reduceIte]
     refine ⟨by omega,?_⟩
     rw [eg]
     by_cases h58:s[zaz s [58,47]]=58
     ·have e58:((s[zaz s [58,47]].toNat:Nat):Int)=58:=by rw [h58]; rfl
      obtain ⟨q1,q2,q3⟩:=sch.1 h3n h58
      simp only [e58,sxZ,z6,z7,z8,j3,j6,j7,j8,j9,x0,x5,x6,x7,x8,x9,y3,reduceCtorEq,↓reduceIte]
      refine ⟨⟨by omega,by omega⟩,?_⟩
      have htl:(s.take (zaz s [58,47])).length ≤ s.length:=by rw [List.length_take]; omega
      refine zae (zfg _ (by omega) ?_)
      by_cases hsc:zbQ (s.take (zaz s [58,47]))=true
      ·simp only [hsc,sxZ,z6,z7,z8,j3,j6,j7,j8,j9,x0,x5,x6,x7,x8,x9,y3,reduceCtorEq,↓reduceIte]
       refine ⟨⟨by omega,by omega⟩,⟨by omega,by omega⟩,⟨by omega,by omega,by omega⟩,?_⟩
       have hdl:(s.drop (zaz s [58,47] + 1)).length ≤ s.length:=by rw [List.length_drop]; omega
       have hq5:min (zaz s [58,47]) s.length=zaz s [58,47]:=by omega
       have q4:(zaq 58 (zat s)).1.length=zaz s [58,47]:=q2
       refine zae (zbG (s.drop (zaz s [58,47] + 1)) [47,47] (by first | omega | (simp; omega)) ?_)
       by_cases h2s:Lib.hasPrefix (s.drop (zaz s [58,47] + 1)) [47,47]=true
       ·have t2:=zbv h2s
        have hfl:=(zaI ((s.drop (zaz s [58,47] + 1)).drop 2)).2
        have hix:zaz ((s.drop (zaz s [58,47] + 1)).drop 2) [47]=(zat ((s.drop (zaz s [58,47] + 1)).drop 2)).length:=zbz 47 _
        have hd2:((s.drop (zaz s [58,47] + 1)).drop 2).length=(s.drop (zaz s [58,47] + 1)).length - 2:=List.length_drop ..
        simp only [h2s,sxZ,z6,z7,z8,j3,j6,j7,j8,j9,x0,x5,x6,x7,x8,x9,y3,reduceCtorEq,↓reduceIte]
        refine ⟨?_,?_⟩
        ·first | omega | exact ⟨by omega,by omega⟩ | exact ⟨by omega,by omega,by omega⟩
        refine zae (zaZ _ [47] (by omega) (by simp; omega) ?_)
        rw [hix]
        simp only [sxZ,z6,z7,z8,j3,j6,j7,j8,j9,x0,x5,x6,x7,x8,x9,y3,reduceCtorEq,↓reduceIte]
        have h2t:zbK (s.drop (zaz s [58,47] + 1))=true:=h2s
        simp only [zbf,q1,q3,hsc,List.length_take,hq5,h2t,zbd,zby,zbu,sxZ,z6,z7,z8,j3,j6,j7,j8,j9,x0,x5,x6,x7,x8,x9,y3,reduceCtorEq,↓reduceIte] at e63
        rw [zcb,zbO]
        refine ⟨?_,?_,?_,e63⟩
        ·first | omega | exact ⟨by omega,by omega⟩ | exact ⟨by omega,by omega,by omega⟩
        ·first | omega | exact ⟨by omega,by omega⟩ | exact ⟨by omega,by omega,by omega⟩
        ·first | omega | exact ⟨by omega,by omega⟩ | exact ⟨by omega,by omega,by omega⟩
       ·have h2t:¬ zbK (s.drop (zaz s [58,47] + 1))=true:=h2s
        simp only [h2s,sxZ,z6,z7,z8,j3,j6,j7,j8,j9,x0,x5,x6,x7,x8,x9,y3,reduceCtorEq,↓reduceIte]
        simp only [zbf,q1,q3,hsc,List.length_take,hq5,h2t,zbd,zby,zbu,sxZ,z6,z7,z8,j3,j6,j7,j8,j9,x0,x5,x6,x7,x8,x9,y3,reduceCtorEq,↓reduceIte] at e63
        exact e63
      ·simp only [hsc,sxZ,z6,z7,z8,j3,j6,j7,j8,j9,x0,x5,x6,x7,x8,x9,y3,reduceCtorEq,↓reduceIte]
       simp only [zbf,q1,q3,hsc,zfA,zbu,sxZ,z6,z7,z8,j3,j6,j7,j8,j9,x0,x5,x6,x7,x8,x9,y3,reduceCtorEq,↓reduceIte] at e63
       exact e63
     ·have e58:¬ ((s[zaz s [58,47]].toNat:Nat):Int)=58:=fun e => h58 (UInt8.toNat_inj.1 (by have:(58:UInt8).toNat=58:=rfl; omega))
      have q3:=sch.2 (fun _ => h58)
      simp only [e58,sxZ,z6,z7,z8,j3,j6,j7,j8,j9,x0,x5,x6,x7,x8,x9,y3,reduceCtorEq,↓reduceIte]
      refine zae (zbG (s) [47,47] (by first | omega | (simp; omega)) ?_)
      by_cases h2s:Lib.hasPrefix (s) [47,47]=true
      ·have t2:=zbv h2s
       have hfl:=(zaI ((s).drop 2)).2
       have hix:zaz ((s).drop 2) [47]=(zat ((s).drop 2)).length:=zbz 47 _
       have hd2:((s).drop 2).length=(s).length - 2:=List.length_drop ..
       simp only [h2s,sxZ,z6,z7,z8,j3,j6,j7,j8,j9,x0,x5,x6,x7,x8,x9,y3,reduceCtorEq,↓reduceIte]
       refine ⟨?_,?_⟩
       ·first | omega | exact ⟨by omega,by omega⟩ | exact ⟨by omega,by omega,by omega⟩
       refine zae (zaZ _ [47] (by omega) (by simp; omega) ?_)
       rw [hix]
       simp only [sxZ,z6,z7,z8,j3,j6,j7,j8,j9,x0,x5,x6,x7,x8,x9,y3,reduceCtorEq,↓reduceIte]
       have h2t:zbK (s)=true:=h2s
       simp only [zbf,q3,h2t,zbd,zby,zbu,sxZ,z6,z7,z8,j3,j6,j7,j8,j9,x0,x5,x6,x7,x8,x9,y3,reduceCtorEq,↓reduceIte] at e63
       rw [zcb,zbO]
       refine ⟨?_,?_,?_,e63⟩
       ·first | omega | exact ⟨by omega,by omega⟩ | exact ⟨by omega,by omega,by omega⟩
       ·first | omega | exact ⟨by omega,by omega⟩ | exact ⟨by omega,by omega,by omega⟩
       ·first | omega | exact ⟨by omega,by omega⟩ | exact ⟨by omega,by omega,by omega⟩
      ·have h2t:¬ zbK (s)=true:=h2s
       simp only [h2s,sxZ,z6,z7,z8,j3,j6,j7,j8,j9,x0,x5,x6,x7,x8,x9,y3,reduceCtorEq,↓reduceIte]
       simp only [zbf,q3,h2t,zbd,zby,zbu,sxZ,z6,z7,z8,j3,j6,j7,j8,j9,x0,x5,x6,x7,x8,x9,y3,reduceCtorEq,↓reduceIte] at e63
       exact e63
    ·have q3:=sch.2 (fun h => absurd h (by omega))
     simp only [h3,sxZ,z6,z7,z8,j3,j6,j7,j8,j9,x0,x5,x6,x7,x8,x9,y3,reduceCtorEq,↓reduceIte]
     refine zae (zbG (s) [47,47] (by first | omega | (simp; omega)) ?_)
     by_cases h2s:Lib.hasPrefix (s) [47,47]=true
     ·have t2:=zbv h2s
      have hfl:=(zaI ((s).drop 2)).2
      have hix:zaz ((s).drop 2) [47]=(zat ((s).drop 2)).length:=zbz 47 _
      have hd2:((s).drop 2).length=(s).length - 2:=List.length_drop ..
      simp only [h2s,sxZ,z6,z7,z8,j3,j6,j7,j8,j9,x0,x5,x6,x7,x8,x9,y3,reduceCtorEq,↓reduceIte]
      refine ⟨?_,?_⟩
      ·first | omega | exact ⟨by omega,by omega⟩ | exact ⟨by omega,by omega,by omega⟩
      refine zae (zaZ _ [47] (by omega) (by simp; omega) ?_)
      rw [hix]
      simp only [sxZ,z6,z7,z8,j3,j6,j7,j8,j9,x0,x5,x6,x7,x8,x9,y3,reduceCtorEq,↓reduceIte]
      have h2t:zbK (s)=true:=h2s
      simp only [zbf,q3,h2t,zbd,zby,zbu,sxZ,z6,z7,z8,j3,j6,j7,j8,j9,x0,x5,x6,x7,x8,x9,y3,reduceCtorEq,↓reduceIte] at e63
      rw [zcb,zbO]
      refine ⟨?_,?_,?_,e63⟩
      ·first | omega | exact ⟨by omega,by omega⟩ | exact ⟨by omega,by omega,by omega⟩
      ·first | omega | exact ⟨by omega,by omega⟩ | exact ⟨by omega,by omega,by omega⟩
      ·first | omega | exact ⟨by omega,by omega⟩ | exact ⟨by omega,by omega,by omega⟩
     ·have h2t:¬ zbK (s)=true:=h2s
      simp only [h2s,sxZ,z6,z7,z8,j3,j6,j7,j8,j9,x0,x5,x6,x7,x8,x9,y3,reduceCtorEq,↓reduceIte]
      simp only [zbf,q3,h2t,zbd,zby,zbu,sxZ,z6,z7,z8,j3,j6,j7,j8,j9,x0,x5,x6,x7,x8,x9,y3,reduceCtorEq,↓reduceIte] at e63
      exact e63
end
end Go.Proofs.YtljbdpihiboeaaaGreatDoor
namespace Go.Proofs.YtljbdpihiboeaaaGreatDoor
def lbB (c:UInt8):Bool:=za0 c || zak c || (c.toNat == 45)
def hyB (c:UInt8):Bool:=c.toNat == 45
def zbq (l:List UInt8):Bool:=!l.isEmpty && decide (l.length ≤ 63) && !((l.head?.map hyB).getD false) && !((l.getLast?.map hyB).getD false) && l.all lbB
def zcz (l:List UInt8):Bool:=(zag 46 l).all zbq && !zcw ((zag 46 l).getLastD [])
def zcT (l:List UInt8):Bool:=decide ((zaF 255 l).1=0)
def zkr (n:Nat) (l:List UInt8):Bool:=decide ((zag 46 l).length=n) && (zag 46 l).all zcT
def zcs (l:List UInt8):Bool:=zkr 4 l
def zaK (l:List UInt8):Int × List UInt8:=if l=[] then (3,[]) else if 253 < l.length then (5,[]) else if (zcz l || zcs l)=true then (0,zbi l) else (50,[])
def zcZ (l:List UInt8):Int × Nat:=if (zaF 65535 l).1=0 ∧ (zaF 65535 l).2 ≠ 0 then (0,(zaF 65535 l).2) else (51,0)
def zoP (r:Int × Nat):Value:=.tuple #[.int .i64 r.2,.int .i64 r.1]
theorem zjL (s:ByteArray) (h:0 < s.size):zbq s.data.toList=(decide (s.size ≤ 63) && !hyB s[0] && !hyB s[s.size - 1] && s.data.toList.all lbB):=by
 have e:=zaX s 0 h
 rw [List.drop_zero] at e
 have e1:s.data.toList.isEmpty=false:=by rw [e]; rfl
 have e2:s.data.toList.head? = some s[0]:=by rw [e]; rfl
 have e3:s.data.toList.getLast? = some s[s.size - 1]:=by
  rw [List.getLast?_eq_getElem?,zaa,List.getElem?_eq_getElem (by rw [zaa]; omega)]; rfl
 unfold zbq
 rw [e1,e2,e3,zaa]
 simp only [Option.map_some,Option.getD_some]
 rfl
theorem zhS {l:List UInt8} (h:(zaq 46 l).2.2=true):zcz l=(zbq (zaq 46 l).1 && zcz (zaq 46 l).2.1):=by
 unfold zcz
 rw [zaU 46 l,if_pos h]
 obtain ⟨p,ps,e⟩:=zaG 46 (zaq 46 l).2.1
 rw [e,List.all_cons,Bool.and_assoc]
 rfl
theorem zhT {l:List UInt8} (h:(zaq 46 l).2.2=false):zcz l=(zbq l && !zcw l):=by
 unfold zcz
 rw [zaU 46 l,if_neg (by rw [h]; exact Bool.false_ne_true)]
 simp [List.getLastD]
theorem zjS {l:List UInt8} {n:Nat} (h:(zaq 46 l).2.2=true):zkr (n + 1) l=(zcT (zaq 46 l).1 && zkr n (zaq 46 l).2.1):=by
 unfold zkr
 rw [zaU 46 l,if_pos h,List.length_cons,List.all_cons]
 have:decide ((zag 46 (zaq 46 l).2.1).length + 1=n + 1)=decide ((zag 46 (zaq 46 l).2.1).length=n):=decide_eq_decide.2 (by omega)
 rw [this]
 rcases zcT (zaq 46 l).1 <;> simp
theorem ipvN_one {l:List UInt8} (h:(zaq 46 l).2.2=false):zkr 1 l=zcT l:=by
 unfold zkr
 rw [zaU 46 l,if_neg (by rw [h]; exact Bool.false_ne_true)]
 simp
theorem zpE {l:List UInt8} {n:Nat} (h:(zaq 46 l).2.2=false):zkr (n + 2) l=false:=by
 unfold zkr
 rw [zaU 46 l,if_neg (by rw [h]; exact Bool.false_ne_true)]
 simp
theorem zpF {l:List UInt8} (h:(zaq 46 l).2.2=true):zkr 1 l=false:=by
 rw [zjS h]
 have:zkr 0 (zaq 46 l).2.1=false:=by
  unfold zkr
  have:=zbs 46 (zaq 46 l).2.1
  rw [decide_eq_false (by omega)]; rfl
 rw [this,Bool.and_false]
theorem znp {l:List UInt8} (h:zbq l=true):1 ≤ l.length:=by
 rcases l with _ | ⟨c,t⟩
 ·cases h
 ·simp
end Go.Proofs.YtljbdpihiboeaaaGreatDoor
namespace Go.Proofs.YtljbdpihiboeaaaGreatDoor
open Go.RowKit
theorem hyT {c:UInt8} (h:hyB c=true):((c.toNat:Int) == 45)=true:=by
 have:c.toNat=45:=by simpa [hyB] using h
 rw [this]; rfl
theorem hyF {c:UInt8} (h:hyB c=false):((c.toNat:Int) == 45)=false:=by
 have:c.toNat ≠ 45:=by simpa [hyB] using h
 rw [beq_eq_false_iff_ne]; omega
theorem hyT' {c:UInt8} (h:hyB c=true):((c.toNat:Int) != 45)=false:=by
 have:c.toNat=45:=by simpa [hyB] using h
 rw [this]; rfl
theorem hyF' {c:UInt8} (h:hyB c=false):((c.toNat:Int) != 45)=true:=by
 have:c.toNat ≠ 45:=by simpa [hyB] using h
 rw [bne_iff_ne]; omega
theorem zjJ (c:UInt8):lbB c=(za0 c || zak c || hyB c):=rfl
set_option maxHeartbeats 1000000 in
theorem ze1 (s:ByteArray) (w:World) (hs:s.size ≤ maxLen) :
  Calls Tryz.prog 238 #[.string s] w fun e w' => e=.returned (.bool (zbq s.data.toList)) ∧ w=w':=by
 unfold maxLen at hs
 by_cases h0:s.size=0
 ·obtain rfl:s=S []:=zc5 h0
  clear h0 hs
  go_enter Tryz.func238,Tryz.ntmps238
  go_wp2_with fail
  go_ret
  exact ⟨rfl,rfl⟩
 have hpos:0 < s.size:=by omega
 have HL:=Lib.hid (zjL s hpos)
 have he1:s.toList.isEmpty=false:=by
  rw [ByteArray.toList_eq]
  rcases hl:s.data.toList with _ | ⟨c,t⟩
  ·have:=zaa s; rw [hl] at this; simp at this; omega
  ·rfl
 clear h0
 by_cases h63:63 < s.size
 ·go_enter Tryz.func238,Tryz.ntmps238
  go_wp2_with fail
  go_ret
  exact ⟨zaj (by rw [HL.out,decide_eq_false (by omega)]; rfl),rfl⟩
 have h63':s.size ≤ 63:=by omega
 have hidx:s.size - 1 < s.size:=by omega
 clear h63
 rcases hy0:hyB s[0] with _ | _
 ·rcases hy1:hyB s[s.size - 1] with _ | _
  ·have b0:=hyF hy0
   have b1:=hyF hy1
   have HA:Hid (zbq s.data.toList=s.data.toList.all lbB):=Lib.hid (by rw [HL.out,hy0,hy1,decide_eq_true h63']; simp)
   clear hy0 hy1
   go_enter Tryz.func238,Tryz.ntmps238
   go_wp2_with fail
   clear b0 b1
   go_loop [26] (fun i => ∃ k:Nat,k ≤ s.size ∧ i=.int .i64 k ∧ Hid ((s.data.toList.take k).all lbB=true)) (fun i => s.size - (intOf i).toNat)
   case atStart => exact ⟨0,Nat.zero_le _,rfl,Lib.hid rfl⟩
   case round =>
    obtain ⟨k,hk,rfl,HT⟩:=hrel
    by_cases hlt:k < s.size
    ·have hst:lbB s[k]=true → Hid ((s.data.toList.take (k + 1)).all lbB=true):=fun h => Lib.hid (by rw [zcc _ _ _ hlt,h,HT.out]; rfl)
     have hbad:lbB s[k]=false → Hid (s.data.toList.all lbB=false):=fun h => Lib.hid (zbg _ _ (k + 1) (by rw [zcc _ _ _ hlt,h,Bool.and_false]))
     rcases ha:za0 s[k] with _ | _
     ·rcases hd:zak s[k] with _ | _
      ·rcases hy:hyB s[k] with _ | _
       ·have HB:=hbad (by rw [zjJ,ha,hd,hy]; rfl)
        have b:=hyF' hy
        have H1:=Lib.hid ha
        have H2:=Lib.hid hd
        clear ha hd hy hst hbad
        go_wp2_with fail
        refine (zba _ _).mono ?_
        rintro e w' ⟨rfl,rfl⟩
        rw [H1.out]
        go_wp2_with fail
        refine (zaT _ _).mono ?_
        rintro e w' ⟨rfl,rfl⟩
        rw [H2.out]
        go_wp2_with fail
        go_ret
        exact ⟨zaj (by rw [HA.out,HB.out]),rfl⟩
       ·have HB:=hst (by rw [zjJ,ha,hd,hy]; rfl)
        have b:=hyT' hy
        have H1:=Lib.hid ha
        have H2:=Lib.hid hd
        clear ha hd hy hst hbad
        go_wp2_with fail
        refine (zba _ _).mono ?_
        rintro e w' ⟨rfl,rfl⟩
        rw [H1.out]
        go_wp2_with fail
        refine (zaT _ _).mono ?_
        rintro e w' ⟨rfl,rfl⟩
        rw [H2.out]
        go_wp2_with fail
        go_round
        case rel => exact ⟨k + 1,by omega,by go_num,HB⟩
        case measure => simp [intOf]; omega
      ·have HB:=hst (by rw [zjJ,ha,hd]; rfl)
       have H1:=Lib.hid ha
       have H2:=Lib.hid hd
       clear ha hd hst hbad
       go_wp2_with fail
       refine (zba _ _).mono ?_
       rintro e w' ⟨rfl,rfl⟩
       rw [H1.out]
       go_wp2_with fail
       refine (zaT _ _).mono ?_
       rintro e w' ⟨rfl,rfl⟩
       rw [H2.out]
       go_wp2_with fail
       go_round
       case rel => exact ⟨k + 1,by omega,by go_num,HB⟩
       case measure => simp [intOf]; omega
     ·have HB:=hst (by rw [zjJ,ha]; rfl)
      have H1:=Lib.hid ha
      clear ha hst hbad
      go_wp2_with fail
      refine (zba _ _).mono ?_
      rintro e w' ⟨rfl,rfl⟩
      rw [H1.out]
      go_wp2_with fail
      go_round
      case rel => exact ⟨k + 1,by omega,by go_num,HB⟩
      case measure => simp [intOf]; omega
    ·have HB:Hid (s.data.toList.all lbB=true):=Lib.hid (by rw [← zbL s k hlt]; exact HT.out)
     go_wp2_with fail
     go_ret
     exact ⟨zaj (by rw [HA.out,HB.out]),rfl⟩
  ·have b0:=hyF hy0
   have b1:=hyT hy1
   have HA:Hid (zbq s.data.toList=false):=Lib.hid (by rw [HL.out,hy0,hy1]; simp)
   clear hy0 hy1
   go_enter Tryz.func238,Tryz.ntmps238
   go_wp2_with fail
   go_ret
   exact ⟨zaj (by rw [HA.out]),rfl⟩
 ·have b0:=hyT hy0
  have HA:Hid (zbq s.data.toList=false):=Lib.hid (by rw [HL.out,hy0]; simp)
  clear hy0
  go_enter Tryz.func238,Tryz.ntmps238
  go_wp2_with fail
  go_ret
  exact ⟨zaj (by rw [HA.out]),rfl⟩
theorem zfR (s:ByteArray) (w:World) (hs:s.size ≤ maxLen) :
  Calls Tryz.prog 205 #[.string s] w fun e w' => e=.returned (.bool (zcz s.data.toList)) ∧ Qb w w':=by
 unfold maxLen at hs
 go_enter Tryz.func205,Tryz.ntmps205
 go_wp2_with fail
 go_loopw [3,4,5,6,10] (fun r _ _ _ i wr => ∃ (k:Nat) (c:ByteArray),k ≤ s.size ∧ c.size + k ≤ s.size ∧ i=.int .i64 k ∧ r=.string c ∧ Hid (zcz s.data.toList=zcz c.data.toList) ∧ Qb w wr) (fun _ _ _ _ i _ => s.size - (intOf i).toNat)
 case atStart => exact ⟨0,s,Nat.zero_le _,by omega,rfl,rfl,Lib.hid rfl,Qb.refl w⟩
 case round =>
  obtain ⟨k,c,hk,hck,rfl,rfl,HN,hq⟩:=hrel
  by_cases hlt:k < s.size
  ·have hl:=zca 46 c.data.toList
   have hlens:=za2 46 c.data.toList
   obtain ⟨p,q,b,hcut⟩:∃ p q b,zaq 46 c.data.toList=(p,q,b):=⟨_,_,_,rfl⟩
   have HC:=Lib.hid hcut
   have hsp:(S p).size ≤ maxLen:=by unfold maxLen; rw [zac]; rw [hcut] at hlens; have:=hlens.1; rw [zaa] at this; simp at this; omega
   rcases hlb:zbq p with _ | _
   ·have HF:Hid (zcz c.data.toList=false):=Lib.hid (by
     rcases hb:b with _ | _
     ·subst hb
      have h2:(zaq 46 c.data.toList).2.2=false:=by rw [hcut]
      have h3:=(hl.2.2 h2).1
      rw [hcut] at h3
      rw [zhT h2,← h3,hlb]; rfl
     ·subst hb
      rw [zhS (by rw [hcut]),hcut,hlb]; rfl)
    have H1:=Lib.hid hlb
    clear hl hlens hcut hlb
    go_wp2_with fail
    refine (zbe c 46 _ (by unfold maxLen; omega)).mono ?_
    rintro e w1 ⟨rfl,hq1⟩
    rw [HC.out]
    unfold zeL
    go_wp2_with fail
    refine (ze1 _ _ hsp).mono ?_
    rintro e w2 ⟨rfl,rfl⟩
    rw [zab,H1.out]
    go_wp2_with fail
    go_ret
    exact ⟨zaj (by rw [HN.out,HF.out]),hq.trans hq1⟩
   ·have H1:=Lib.hid hlb
    rcases hb:b with _ | _
    ·subst hb
     have h2:(zaq 46 c.data.toList).2.2=false:=by rw [hcut]
     have h3:=(hl.2.2 h2).1
     rw [hcut] at h3
     have HF:Hid (zcz c.data.toList=!zcw p):=Lib.hid (by rw [zhT h2,← h3,hlb,Bool.true_and])
     clear hl hlens hcut hlb h2 h3
     go_wp2_with fail
     refine (zbe c 46 _ (by unfold maxLen; omega)).mono ?_
     rintro e w1 ⟨rfl,hq1⟩
     rw [HC.out]
     unfold zeL
     go_wp2_with fail
     refine (ze1 _ _ hsp).mono ?_
     rintro e w2 ⟨rfl,rfl⟩
     rw [zab,H1.out]
     go_wp2_with fail
     refine (znD _ _ hsp).mono ?_
     rintro e w2 ⟨rfl,rfl⟩
     rw [zab]
     go_wp2_with fail
     go_ret
     exact ⟨zaj (by rw [HN.out,HF.out]),hq.trans hq1⟩
    ·subst hb
     have h2:(zaq 46 c.data.toList).2.2=true:=by rw [hcut]
     have h3:=hl.2.1 h2
     rw [hcut,zaa] at h3
     simp only at h3
     have h4:=znp hlb
     have HF:Hid (zcz c.data.toList=zcz (S q).data.toList):=Lib.hid (by rw [zhS h2,hcut,hlb,Bool.true_and])
     have h5:(S q).size + (k + 1) ≤ s.size:=by rw [zac]; omega
     clear hl hlens hcut hlb h2 h3 h4
     go_wp2_with fail
     refine (zbe c 46 _ (by unfold maxLen; omega)).mono ?_
     rintro e w1 ⟨rfl,hq1⟩
     rw [HC.out]
     unfold zeL
     go_wp2_with fail
     refine (ze1 _ _ hsp).mono ?_
     rintro e w2 ⟨rfl,rfl⟩
     rw [zab,H1.out]
     go_wp2_with fail
     go_roundw
     case rel => exact ⟨k + 1,S q,by omega,h5,by go_num,rfl,Lib.hid (by rw [HN.out,HF.out]),hq.trans hq1⟩
     case measure => simp [intOf]; omega
  ·have hc0:c.size=0:=by omega
   obtain rfl:c=S []:=zc5 hc0
   clear hc0
   go_wp2_with fail
   go_ret
   exact ⟨zaj (by rw [HN.out]; decide),hq⟩
theorem zh8 (l:List UInt8):zcT l=decide ((zaF (255:Int).toNat l).1=0):=rfl
theorem zeB (s:ByteArray) (w:World) (hs:s.size ≤ maxLen) :
  Calls Tryz.prog 186 #[.string s] w fun e w' => e=.returned (.bool (zcs s.data.toList)) ∧ Qb w w':=by
 unfold maxLen at hs
 go_enter Tryz.func186,Tryz.ntmps186
 go_wp2_with fail
 go_loopw [3,4,5,6,7,8,9,10,12] (fun r _ _ _ _ _ _ _ i wr => ∃ (k:Nat) (c:ByteArray),k ≤ 4 ∧ c.size ≤ s.size ∧ i=.int .i64 k ∧ r=.string c ∧ Hid (zcs s.data.toList=if k=4 then true else zkr (4 - k) c.data.toList) ∧ Qb w wr) (fun _ _ _ _ _ _ _ _ i _ => 4 - (intOf i).toNat)
 case atStart => exact ⟨0,s,by omega,Nat.le_refl _,rfl,rfl,Lib.hid rfl,Qb.refl w⟩
 case round =>
  obtain ⟨k,c,hk,hck,rfl,rfl,HN,hq⟩:=hrel
  by_cases hlt:k < 4
  ·have hl:=zca 46 c.data.toList
   have hlens:=za2 46 c.data.toList
   obtain ⟨p,q,b,hcut⟩:∃ p q b,zaq 46 c.data.toList=(p,q,b):=⟨_,_,_,rfl⟩
   have HC:=Lib.hid hcut
   have hsp:(S p).size ≤ maxLen:=by unfold maxLen; rw [zac]; rw [hcut] at hlens; have:=hlens.1; rw [zaa] at this; simp at this; omega
   have hsq:(S q).size ≤ s.size:=by rw [zac]; rw [hcut] at hlens; have:=hlens.2; rw [zaa] at this; simp at this; omega
   have HN':Hid (zcs s.data.toList=zkr (4 - k) c.data.toList):=Lib.hid (by rw [HN.out,if_neg (by omega)])
   clear HN
   obtain ⟨er,v,hst⟩:∃ er v,zaF (255:Int).toNat p=(er,v):=⟨_,_,rfl⟩
   have HS:=Lib.hid hst
   have hok:zcT p=decide (er=0):=by rw [zh8,hst]
   by_cases hk3:k=3
   ·subst hk3
    rcases hb:b with _ | _
    ·subst hb
     have h2:(zaq 46 c.data.toList).2.2=false:=by rw [hcut]
     have h3:=(hl.2.2 h2).1
     rw [hcut] at h3
     have HF:Hid (zcs s.data.toList=decide (er=0)):=Lib.hid (by rw [HN'.out,show 4 - 3=1 from rfl,ipvN_one h2,← h3,hok])
     clear hl hlens hcut h2 h3 hok hst
     by_cases he:er=0
     ·subst he
      go_wp2_with fail
      refine (zbe c 46 _ (by unfold maxLen; omega)).mono ?_
      rintro e w1 ⟨rfl,hq1⟩
      rw [HC.out]
      unfold zeL
      go_wp2_with fail
      refine (zce _ _ _ hsp (by decide) (by decide)).mono ?_
      rintro e w2 ⟨rfl,rfl⟩
      rw [zab,HS.out]
      unfold zhn
      go_wp2_with fail
      go_roundw
      case rel => exact ⟨4,S q,by omega,hsq,by go_num,rfl,Lib.hid (by rw [HF.out]; rfl),hq.trans hq1⟩
      case measure => simp [intOf]
     ·have he1:(er != 0)=true:=bne_iff_ne.2 he
      have HF2:Hid (zcs s.data.toList=false):=Lib.hid (by rw [HF.out,decide_eq_false he])
      clear he HF
      go_wp2_with fail
      refine (zbe c 46 _ (by unfold maxLen; omega)).mono ?_
      rintro e w1 ⟨rfl,hq1⟩
      rw [HC.out]
      unfold zeL
      go_wp2_with fail
      refine (zce _ _ _ hsp (by decide) (by decide)).mono ?_
      rintro e w2 ⟨rfl,rfl⟩
      rw [zab,HS.out]
      unfold zhn
      go_wp2_with fail
      go_ret
      exact ⟨zaj (by rw [HF2.out]),hq.trans hq1⟩
    ·subst hb
     have HF:Hid (zcs s.data.toList=false):=Lib.hid (by rw [HN'.out,show 4 - 3=1 from rfl,zpF (by rw [hcut])])
     clear hl hlens hcut hok hst
     go_wp2_with fail
     refine (zbe c 46 _ (by unfold maxLen; omega)).mono ?_
     rintro e w1 ⟨rfl,hq1⟩
     rw [HC.out]
     unfold zeL
     go_wp2_with fail
     go_ret
     exact ⟨zaj (by rw [HF.out]),hq.trans hq1⟩
   ·have hk2:k ≤ 2:=by omega
    have hkb:((k:Int) == 3)=false:=by rw [beq_eq_false_iff_ne]; omega
    clear hk3
    rcases hb:b with _ | _
    ·subst hb
     have HF:Hid (zcs s.data.toList=false):=Lib.hid (by rw [HN'.out,show 4 - k=(2 - k) + 2 from by omega,zpE (by rw [hcut])])
     clear hl hlens hcut hok hst
     go_wp2_with fail
     refine (zbe c 46 _ (by unfold maxLen; omega)).mono ?_
     rintro e w1 ⟨rfl,hq1⟩
     rw [HC.out]
     unfold zeL
     go_wp2_with fail
     go_ret
     exact ⟨zaj (by rw [HF.out]),hq.trans hq1⟩
    ·subst hb
     have HF:Hid (zcs s.data.toList=(decide (er=0) && zkr (4 - (k + 1)) (S q).data.toList)):=Lib.hid (by rw [HN'.out,show 4 - k=(4 - (k + 1)) + 1 from by omega,zjS (by rw [hcut]),hcut,hok])
     clear hl hlens hcut hok hst
     by_cases he:er=0
     ·subst he
      go_wp2_with fail
      refine (zbe c 46 _ (by unfold maxLen; omega)).mono ?_
      rintro e w1 ⟨rfl,hq1⟩
      rw [HC.out]
      unfold zeL
      go_wp2_with fail
      refine (zce _ _ _ hsp (by decide) (by decide)).mono ?_
      rintro e w2 ⟨rfl,rfl⟩
      rw [zab,HS.out]
      unfold zhn
      go_wp2_with fail
      go_roundw
      case rel => exact ⟨k + 1,S q,by omega,hsq,by go_num,rfl,Lib.hid (by rw [HF.out,if_neg (by omega)]; rfl),hq.trans hq1⟩
      case measure => simp [intOf]; omega
     ·have he1:(er != 0)=true:=bne_iff_ne.2 he
      have HF2:Hid (zcs s.data.toList=false):=Lib.hid (by rw [HF.out,decide_eq_false he]; rfl)
      clear he HF
      go_wp2_with fail
      refine (zbe c 46 _ (by unfold maxLen; omega)).mono ?_
      rintro e w1 ⟨rfl,hq1⟩
      rw [HC.out]
      unfold zeL
      go_wp2_with fail
      refine (zce _ _ _ hsp (by decide) (by decide)).mono ?_
      rintro e w2 ⟨rfl,rfl⟩
      rw [zab,HS.out]
      unfold zhn
      go_wp2_with fail
      go_ret
      exact ⟨zaj (by rw [HF2.out]),hq.trans hq1⟩
  ·obtain rfl:k=4:=by omega
   go_wp2_with fail
   go_ret
   exact ⟨zaj (by rw [HN.out]; rfl),hq⟩
end Go.Proofs.YtljbdpihiboeaaaGreatDoor
namespace Go.Proofs.YtljbdpihiboeaaaGreatDoor
open Go.RowKit
theorem zd3 {s:ByteArray} (h:0 < s.size):s.toList.isEmpty=false:=by
 rw [ByteArray.toList_eq]
 rcases hl:s.data.toList with _ | ⟨c,t⟩
 ·have:=zaa s; rw [hl] at this; simp at this; omega
 ·rfl
theorem zpb {s:ByteArray} (h:0 < s.size):s.data.toList ≠ []:=fun e => by have:=zaa s; rw [e] at this; simp at this; omega
theorem zcM (s:ByteArray) (w:World) (hs:s.size ≤ maxLen) :
  Calls Tryz.prog 183 #[.string s] w fun e w' => e=.returned (zcX (zaK s.data.toList)) ∧ Qb w w':=by
 by_cases h0:s.size=0
 ·obtain rfl:s=S []:=zc5 h0
  clear h0 hs
  go_enter Tryz.func183,Tryz.ntmps183
  go_wp2_with fail
  go_ret2
  exact ⟨rfl,Qb.refl _⟩
 have hpos:0 < s.size:=by omega
 have he1:=zd3 hpos
 have hne:=Lib.hid (zpb hpos)
 clear h0
 by_cases h253:253 < s.size
 ·have HE:Hid (zaK s.data.toList=(5,[])):=Lib.hid (by unfold zaK; rw [if_neg hne.out,if_pos (by rw [zaa]; exact h253)])
  go_enter Tryz.func183,Tryz.ntmps183
  go_wp2_with fail
  go_ret2
  exact ⟨by rw [HE.out]; rfl,Qb.refl _⟩
 have h253':s.size ≤ 253:=by omega
 have hml:s.size ≤ maxLen:=by unfold maxLen; omega
 have HE:Hid (zaK s.data.toList=if (zcz s.data.toList || zcs s.data.toList)=true then (0,zbi s.data.toList) else (50,[])):=Lib.hid (by unfold zaK; rw [if_neg hne.out,if_neg (by rw [zaa]; omega)])
 clear h253
 rcases h1:zcz s.data.toList with _ | _
 ·rcases h2:zcs s.data.toList with _ | _
  ·have HF:Hid (zaK s.data.toList=(50,[])):=Lib.hid (by rw [HE.out,h1,h2]; rfl)
   have H1:=Lib.hid h1
   have H2:=Lib.hid h2
   clear h1 h2
   go_enter Tryz.func183,Tryz.ntmps183
   go_wp2_with fail
   refine (zfR s _ hml).mono ?_
   rintro e w1 ⟨rfl,hq1⟩
   rw [H1.out]
   go_wp2_with fail
   refine (zeB s _ hml).mono ?_
   rintro e w2 ⟨rfl,hq2⟩
   rw [H2.out]
   go_wp2_with fail
   go_ret2
   exact ⟨by rw [HF.out]; rfl,hq1.trans hq2⟩
  ·have HF:Hid (zaK s.data.toList=(0,zbi s.data.toList)):=Lib.hid (by rw [HE.out,h1,h2]; rfl)
   have H1:=Lib.hid h1
   have H2:=Lib.hid h2
   clear h1 h2
   go_enter Tryz.func183,Tryz.ntmps183
   go_wp2_with fail
   refine (zfR s _ hml).mono ?_
   rintro e w1 ⟨rfl,hq1⟩
   rw [H1.out]
   go_wp2_with fail
   refine (zeB s _ hml).mono ?_
   rintro e w2 ⟨rfl,hq2⟩
   rw [H2.out]
   go_wp2_with fail
   refine (zhm s _ (by omega)).mono ?_
   rintro e w3 ⟨rfl,hq3⟩
   go_wp2_with fail
   go_ret2
   exact ⟨by rw [HF.out]; rfl,(hq1.trans hq2).trans hq3⟩
 ·have HF:Hid (zaK s.data.toList=(0,zbi s.data.toList)):=Lib.hid (by rw [HE.out,h1]; simp)
  have H1:=Lib.hid h1
  clear h1
  go_enter Tryz.func183,Tryz.ntmps183
  go_wp2_with fail
  refine (zfR s _ hml).mono ?_
  rintro e w1 ⟨rfl,hq1⟩
  rw [H1.out]
  go_wp2_with fail
  refine (zhm s _ (by omega)).mono ?_
  rintro e w3 ⟨rfl,hq3⟩
  go_wp2_with fail
  go_ret2
  exact ⟨by rw [HF.out]; rfl,hq1.trans hq3⟩
theorem zi1 (s:ByteArray) (w:World) (hs:s.size ≤ maxLen) :
  Calls Tryz.prog 227 #[.string s] w fun e w' => e=.returned (zoP (zcZ s.data.toList)) ∧ w=w':=by
 obtain ⟨er,v,hst⟩:∃ er v,zaF (65535:Int).toNat s.data.toList=(er,v):=⟨_,_,rfl⟩
 have HS:=Lib.hid hst
 have hle:=zeR 65535 s.data.toList
 rw [show zaF 65535 s.data.toList=(er,v) from hst] at hle
 have HP:Hid (zcZ s.data.toList=if er=0 ∧ v ≠ 0 then (0,v) else (51,0)):=Lib.hid (by
  unfold zcZ; rw [show zaF 65535 s.data.toList=(er,v) from hst])
 simp only at hle
 clear hst
 by_cases he:er=0
 ·subst he
  by_cases hv:v=0
  ·subst hv
   go_enter Tryz.func227,Tryz.ntmps227
   go_wp2_with fail
   refine (zce _ _ _ hs (by decide) (by decide)).mono ?_
   rintro e w2 ⟨rfl,rfl⟩
   rw [HS.out]
   unfold zhn
   go_wp2_with fail
   go_ret2
   exact ⟨by rw [HP.out]; rfl,rfl⟩
  ·have hb:((v:Int) == 0)=false:=by rw [beq_eq_false_iff_ne]; omega
   have HF:Hid (zcZ s.data.toList=(0,v)):=Lib.hid (by rw [HP.out,if_pos ⟨rfl,hv⟩])
   clear hv
   go_enter Tryz.func227,Tryz.ntmps227
   go_wp2_with fail
   refine (zce _ _ _ hs (by decide) (by decide)).mono ?_
   rintro e w2 ⟨rfl,rfl⟩
   rw [HS.out]
   unfold zhn
   go_wp2_with fail
   go_ret2
   exact ⟨by rw [HF.out]; rfl,rfl⟩
 ·have hb:(er != 0)=true:=bne_iff_ne.2 he
  have HF:Hid (zcZ s.data.toList=(51,0)):=Lib.hid (by rw [HP.out,if_neg (fun h => he h.1)])
  clear he
  go_enter Tryz.func227,Tryz.ntmps227
  go_wp2_with fail
  refine (zce _ _ _ hs (by decide) (by decide)).mono ?_
  rintro e w2 ⟨rfl,rfl⟩
  rw [HS.out]
  unfold zhn
  go_wp2_with fail
  go_ret2
  exact ⟨by rw [HF.out]; rfl,rfl⟩
theorem zoE (s:ByteArray) (w:World) (hs:s.size ≤ maxLen) :
  Calls Tryz.prog 173 #[.string s] w fun e w' => e=.returned (zoP (zcZ s.data.toList)) ∧ w=w':=by
 obtain ⟨er,v,hst⟩:∃ er v,zaF (65535:Int).toNat s.data.toList=(er,v):=⟨_,_,rfl⟩
 have HS:=Lib.hid hst
 have hle:=zeR 65535 s.data.toList
 rw [show zaF 65535 s.data.toList=(er,v) from hst] at hle
 have HP:Hid (zcZ s.data.toList=if er=0 ∧ v ≠ 0 then (0,v) else (51,0)):=Lib.hid (by
  unfold zcZ; rw [show zaF 65535 s.data.toList=(er,v) from hst])
 simp only at hle
 clear hst
 by_cases he:er=0
 ·subst he
  by_cases hv:v=0
  ·subst hv
   go_enter Tryz.func173,Tryz.ntmps173
   go_wp2_with fail
   refine (zdh _ _ _ hs (by decide) (by decide)).mono ?_
   rintro e w2 ⟨rfl,rfl⟩
   rw [HS.out]
   unfold zhn
   go_wp2_with fail
   go_ret2
   exact ⟨by rw [HP.out]; rfl,rfl⟩
  ·have hb:((v:Int) == 0)=false:=by rw [beq_eq_false_iff_ne]; omega
   have HF:Hid (zcZ s.data.toList=(0,v)):=Lib.hid (by rw [HP.out,if_pos ⟨rfl,hv⟩])
   clear hv
   go_enter Tryz.func173,Tryz.ntmps173
   go_wp2_with fail
   refine (zdh _ _ _ hs (by decide) (by decide)).mono ?_
   rintro e w2 ⟨rfl,rfl⟩
   rw [HS.out]
   unfold zhn
   go_wp2_with fail
   go_ret2
   exact ⟨by rw [HF.out]; rfl,rfl⟩
 ·have hb:(er != 0)=true:=bne_iff_ne.2 he
  have HF:Hid (zcZ s.data.toList=(51,0)):=Lib.hid (by rw [HP.out,if_neg (fun h => he h.1)])
  clear he
  go_enter Tryz.func173,Tryz.ntmps173
  go_wp2_with fail
  refine (zdh _ _ _ hs (by decide) (by decide)).mono ?_
  rintro e w2 ⟨rfl,rfl⟩
  rw [HS.out]
  unfold zhn
  go_wp2_with fail
  go_ret2
  exact ⟨by rw [HF.out]; rfl,rfl⟩
theorem zhK (s:ByteArray) (h:0 < s.size):zbq s.data.toList=(s.data.toList.all lbB && decide (s.size ≤ 63) && !hyB s[0] && !hyB s[s.size - 1]):=by
 rw [zjL s h]
 rcases decide (s.size ≤ 63) <;> rcases hyB s[0] <;> rcases hyB s[s.size - 1] <;> rcases s.data.toList.all lbB <;> rfl
set_option maxHeartbeats 1000000 in
theorem zhL (s:ByteArray) (w:World) (hs:s.size ≤ maxLen) :
  Calls Tryz.prog 169 #[.string s] w fun e w' => e=.returned (.bool (zbq s.data.toList)) ∧ w=w':=by
 unfold maxLen at hs
 go_enter Tryz.func169,Tryz.ntmps169
 go_wp2_with fail
 go_loop [3] (fun i => ∃ k:Nat,k ≤ s.size ∧ i=.int .i64 k ∧ Hid ((s.data.toList.take k).all lbB=true)) (fun i => s.size - (intOf i).toNat)
 case atStart => exact ⟨0,Nat.zero_le _,rfl,Lib.hid rfl⟩
 case round =>
  obtain ⟨k,hk,rfl,HT⟩:=hrel
  by_cases hlt:k < s.size
  ·have hpos:0 < s.size:=by omega
   have HL:=Lib.hid (zhK s hpos)
   have hst:lbB s[k]=true → Hid ((s.data.toList.take (k + 1)).all lbB=true):=fun h => Lib.hid (by rw [zcc _ _ _ hlt,h,HT.out]; rfl)
   have hbad:lbB s[k]=false → Hid (zbq s.data.toList=false):=fun h => Lib.hid (by rw [HL.out,zbg _ _ (k + 1) (by rw [zcc _ _ _ hlt,h,Bool.and_false])]; rfl)
   rcases ha:za0 s[k] with _ | _
   ·rcases hd:zak s[k] with _ | _
    ·rcases hy:hyB s[k] with _ | _
     ·have HB:=hbad (by rw [zjJ,ha,hd,hy]; rfl)
      have b:=hyF' hy
      have H1:=Lib.hid ha
      have H2:=Lib.hid hd
      clear ha hd hy hst hbad
      go_wp2_with fail
      refine (za4 _ _).mono ?_
      rintro e w' ⟨rfl,rfl⟩
      rw [H1.out]
      go_wp2_with fail
      refine (za3 _ _).mono ?_
      rintro e w' ⟨rfl,rfl⟩
      rw [H2.out]
      go_wp2_with fail
      go_ret
      exact ⟨zaj (by rw [HB.out]),rfl⟩
     ·have HB:=hst (by rw [zjJ,ha,hd,hy]; rfl)
      have b:=hyT' hy
      have H1:=Lib.hid ha
      have H2:=Lib.hid hd
      clear ha hd hy hst hbad
      go_wp2_with fail
      refine (za4 _ _).mono ?_
      rintro e w' ⟨rfl,rfl⟩
      rw [H1.out]
      go_wp2_with fail
      refine (za3 _ _).mono ?_
      rintro e w' ⟨rfl,rfl⟩
      rw [H2.out]
      go_wp2_with fail
      go_round
      case rel => exact ⟨k + 1,by omega,by go_num,HB⟩
      case measure => simp [intOf]; omega
    ·have HB:=hst (by rw [zjJ,ha,hd]; rfl)
     have H1:=Lib.hid ha
     have H2:=Lib.hid hd
     clear ha hd hst hbad
     go_wp2_with fail
     refine (za4 _ _).mono ?_
     rintro e w' ⟨rfl,rfl⟩
     rw [H1.out]
     go_wp2_with fail
     refine (za3 _ _).mono ?_
     rintro e w' ⟨rfl,rfl⟩
     rw [H2.out]
     go_wp2_with fail
     go_round
     case rel => exact ⟨k + 1,by omega,by go_num,HB⟩
     case measure => simp [intOf]; omega
   ·have HB:=hst (by rw [zjJ,ha]; rfl)
    have H1:=Lib.hid ha
    clear ha hst hbad
    go_wp2_with fail
    refine (za4 _ _).mono ?_
    rintro e w' ⟨rfl,rfl⟩
    rw [H1.out]
    go_wp2_with fail
    go_round
    case rel => exact ⟨k + 1,by omega,by go_num,HB⟩
    case measure => simp [intOf]; omega
  ·have HA:Hid (s.data.toList.all lbB=true):=Lib.hid (by rw [← zbL s k hlt]; exact HT.out)
   obtain rfl:k=s.size:=by omega
   clear HT hlt
   by_cases h0:s.size=0
   ·obtain rfl:s=S []:=zc5 h0
    clear h0 hs hk HA
    go_wp2_with fail
    go_ret
    exact ⟨rfl,rfl⟩
   have hpos:0 < s.size:=by omega
   have he1:=zd3 hpos
   have HL:Hid (zbq s.data.toList=(decide (s.size ≤ 63) && !hyB s[0] && !hyB s[s.size - 1])):=Lib.hid (by rw [zhK s hpos,HA.out,Bool.true_and])
   have hidx:s.size - 1 < s.size:=by omega
   clear h0
   by_cases h63:s.size ≤ 63
   ·rcases hy0:hyB s[0] with _ | _
    ·rcases hy1:hyB s[s.size - 1] with _ | _
     ·have b0:=hyF' hy0
      have b1:=hyF' hy1
      have HF:Hid (zbq s.data.toList=true):=Lib.hid (by rw [HL.out,hy0,hy1,decide_eq_true h63]; rfl)
      clear hy0 hy1
      go_wp2_with fail
      go_ret
      exact ⟨zaj (by rw [HF.out]),rfl⟩
     ·have b0:=hyF' hy0
      have b1:=hyT' hy1
      have HF:Hid (zbq s.data.toList=false):=Lib.hid (by rw [HL.out,hy0,hy1]; simp)
      clear hy0 hy1
      go_wp2_with fail
      go_ret
      exact ⟨zaj (by rw [HF.out]),rfl⟩
    ·have b0:=hyT' hy0
     have HF:Hid (zbq s.data.toList=false):=Lib.hid (by rw [HL.out,hy0]; simp)
     clear hy0
     go_wp2_with fail
     go_ret
     exact ⟨zaj (by rw [HF.out]),rfl⟩
   ·have HF:Hid (zbq s.data.toList=false):=Lib.hid (by rw [HL.out,decide_eq_false h63]; rfl)
    go_wp2_with fail
    go_ret
    exact ⟨zaj (by rw [HF.out]),rfl⟩
theorem zc0 (c:UInt8):∀ (l x:List UInt8),x ∈ zag c l → x.length ≤ l.length
 | [],x,h => by simp [zag] at h; subst h; simp
 | y :: t,x,h => by
  rw [zaE] at h
  by_cases hy:y=c
  ·rw [if_pos hy] at h
   rcases List.mem_cons.1 h with rfl | h
   ·simp
   ·have:=zc0 c t x h; simp; omega
  ·obtain ⟨p,ps,e⟩:=zaG c t
   have ih:=zc0 c t
   rw [if_neg hy,e] at h
   rw [e] at ih
   rcases List.mem_cons.1 h with rfl | h
   ·have:=ih p (by simp); simp; omega
   ·have:=ih x (List.mem_cons_of_mem _ h); simp; omega
theorem zev {α:Type} (p:α → Bool) (l:List α) (k:Nat) (h:k < l.length):(l.take (k + 1)).all p=((l.take k).all p && p l[k]):=by
 rw [List.take_succ_eq_append_getElem h,List.all_append]; simp
theorem zdR {α:Type} (p:α → Bool) (l:List α) (k:Nat) (h:(l.take k).all p=false):l.all p=false:=by
 rw [← List.take_append_drop k l,List.all_append,h,Bool.false_and]
theorem zea {α:Type} (l:List α) (d:α) (h:0 < l.length):l.getLastD d=l[l.length - 1]:=by
 rw [List.getLastD_eq_getLast?,List.getLast?_eq_getElem?,List.getElem?_eq_getElem (by omega)]; rfl
theorem zjj (s:ByteArray) (w:World) (hs:s.size ≤ 1000000) :
  Calls Tryz.prog 137 #[.string s] w fun e w' => e=.returned (.bool (zcz s.data.toList)) ∧ Qb w w':=by
 have hpos:=zbs 46 s.data.toList
 have hlen:=zc6 46 s.data.toList
 have hparts:∀ k (h:k < (zag 46 s.data.toList).length),(S (zag 46 s.data.toList)[k]).size ≤ maxLen:=fun k h => by
  have:=zc0 46 s.data.toList _ (List.getElem_mem h)
  unfold maxLen; rw [zac]; rw [zaa] at this; omega
 have HB:Hid (zcz s.data.toList=((zag 46 s.data.toList).all zbq && !zcw ((zag 46 s.data.toList).getLastD []))):=Lib.hid rfl
 rw [zaa] at hlen
 have HP:=Lib.hid hparts
 clear hparts
 go_enter Tryz.func137,Tryz.ntmps137
 go_wp2_with fail
 refine (zex s 46 _ hs).mono ?_
 rintro e w1 ⟨v,rfl,hrow,hq1⟩
 generalize zag 46 s.data.toList=ls at *
 obtain ⟨g,cap,rfl,hg0,hg1,hcap⟩:=hrow.form hpos
 have HR:=Lib.hid hrow
 clear hrow
 go_wp2_with fail
 go_loop [5,10] (fun _ i => ∃ k:Nat,k ≤ ls.length ∧ i=.int .i64 k ∧ Hid ((ls.take k).all zbq=true)) (fun _ i => ls.length - (intOf i).toNat)
 case atStart => exact ⟨0,Nat.zero_le _,rfl,Lib.hid rfl⟩
 case round =>
  obtain ⟨k,hk,rfl,HT⟩:=hrel
  by_cases hlt:k < ls.length
  ·have hcell:=HR.out.cell k hlt
   have hsz:=HP.out k hlt
   have HS:=Lib.hid (zev zbq ls k hlt)
   have HF:=zdR zbq ls (k + 1)
   generalize ls[k]=x at *
   rcases hx:zbq x with _ | _
   ·have HB2:Hid (zcz s.data.toList=false):=Lib.hid (by rw [HB.out,HF (by rw [HS.out,hx,Bool.and_false])]; rfl)
    have H1:=Lib.hid hx
    clear hx HF
    go_wp2_with fail
    refine (zhL _ _ hsz).mono ?_
    rintro e w2 ⟨rfl,rfl⟩
    rw [zab,H1.out]
    go_wp2_with fail
    go_ret
    exact ⟨zaj (by rw [HB2.out]),hq1⟩
   ·have HT2:Hid ((ls.take (k + 1)).all zbq=true):=Lib.hid (by rw [HS.out,hx,HT.out]; rfl)
    have H1:=Lib.hid hx
    clear hx HF
    go_wp2_with fail
    refine (zhL _ _ hsz).mono ?_
    rintro e w2 ⟨rfl,rfl⟩
    rw [zab,H1.out]
    go_wp2_with fail
    go_round
    case rel => exact ⟨k + 1,by omega,by go_num,HT2⟩
    case measure => simp [intOf]; omega
  ·obtain rfl:k=ls.length:=by omega
   have hidx:ls.length - 1 < ls.length:=by omega
   have hcell:=HR.out.cell (ls.length - 1) hidx
   have hsz:=HP.out _ hidx
   have HD:Hid (zcz s.data.toList=!zcw ls[ls.length - 1]):=Lib.hid (by
    have:=HT.out
    rw [List.take_length] at this
    rw [HB.out,this,Bool.true_and,zea _ _ hpos])
   generalize ls[ls.length - 1]=x at *
   clear hlt
   go_wp2_with fail
   refine (zkE _ _ hsz).mono ?_
   rintro e w2 ⟨rfl,rfl⟩
   go_wp2_with fail
   go_ret
   exact ⟨zaj (by rw [HD.out]),hq1⟩
theorem zei (s:ByteArray) (w:World) (hs:s.size ≤ 1000000) :
  Calls Tryz.prog 114 #[.string s] w fun e w' => e=.returned (.bool (zcs s.data.toList)) ∧ Qb w w':=by
 have hpos:=zbs 46 s.data.toList
 have hlen:=zc6 46 s.data.toList
 have hparts:∀ k (h:k < (zag 46 s.data.toList).length),(S (zag 46 s.data.toList)[k]).size ≤ maxLen:=fun k h => by
  have:=zc0 46 s.data.toList _ (List.getElem_mem h)
  unfold maxLen; rw [zac]; rw [zaa] at this; omega
 have HB:Hid (zcs s.data.toList=(decide ((zag 46 s.data.toList).length=4) && (zag 46 s.data.toList).all zcT)):=Lib.hid rfl
 rw [zaa] at hlen
 have HP:=Lib.hid hparts
 clear hparts
 go_enter Tryz.func114,Tryz.ntmps114
 go_wp2_with fail
 refine (zex s 46 _ hs).mono ?_
 rintro e w1 ⟨v,rfl,hrow,hq1⟩
 generalize zag 46 s.data.toList=ls at *
 obtain ⟨g,cap,rfl,hg0,hg1,hcap⟩:=hrow.form hpos
 have HR:=Lib.hid hrow
 clear hrow
 go_wp2_with fail
 go_loop [5,6,7,12] (fun _ _ _ i => ∃ k:Nat,k ≤ ls.length ∧ i=.int .i64 k ∧ Hid ((ls.take k).all zcT=true)) (fun _ _ _ i => ls.length - (intOf i).toNat)
 case atStart => exact ⟨0,Nat.zero_le _,rfl,Lib.hid rfl⟩
 case round =>
  obtain ⟨k,hk,rfl,HT⟩:=hrel
  by_cases hlt:k < ls.length
  ·have hcell:=HR.out.cell k hlt
   have hsz:=HP.out k hlt
   have HS:=Lib.hid (zev zcT ls k hlt)
   have HF:=zdR zcT ls (k + 1)
   generalize ls[k]=x at *
   obtain ⟨er,v,hst⟩:∃ er v,zaF (255:Int).toNat x=(er,v):=⟨_,_,rfl⟩
   have HS1:=Lib.hid hst
   have hok:zcT x=decide (er=0):=by rw [zh8,hst]
   clear hst
   by_cases he:er=0
   ·subst he
    have HT2:Hid ((ls.take (k + 1)).all zcT=true):=Lib.hid (by rw [HS.out,hok,HT.out]; rfl)
    clear hok HF
    go_wp2_with fail
    refine (zdh _ _ _ hsz (by decide) (by decide)).mono ?_
    rintro e w2 ⟨rfl,rfl⟩
    rw [zab,HS1.out]
    unfold zhn
    go_wp2_with fail
    go_round
    case rel => exact ⟨k + 1,by omega,by go_num,HT2⟩
    case measure => simp [intOf]; omega
   ·have he1:(er != 0)=true:=bne_iff_ne.2 he
    have HB2:Hid (zcs s.data.toList=false):=Lib.hid (by rw [HB.out,HF (by rw [HS.out,hok,decide_eq_false he,Bool.and_false]),Bool.and_false])
    clear hok HF he
    go_wp2_with fail
    refine (zdh _ _ _ hsz (by decide) (by decide)).mono ?_
    rintro e w2 ⟨rfl,rfl⟩
    rw [zab,HS1.out]
    unfold zhn
    go_wp2_with fail
    go_ret
    exact ⟨zaj (by rw [HB2.out]),hq1⟩
  ·obtain rfl:k=ls.length:=by omega
   have HD:Hid (zcs s.data.toList=decide ((ls.length:Int)=4)):=Lib.hid (by
    have:=HT.out
    rw [List.take_length] at this
    rw [HB.out,this,Bool.and_true]; exact decide_eq_decide.2 (by omega))
   clear hlt
   go_wp2_with fail
   go_ret
   exact ⟨zaj (by rw [HD.out]; try rfl),hq1⟩
theorem zdL (s:ByteArray) (w:World) (hs:s.size ≤ 1000000) :
  Calls Tryz.prog 111 #[.string s] w fun e w' => e=.returned (zcX (zaK s.data.toList)) ∧ Qb w w':=by
 by_cases h0:s.size=0
 ·obtain rfl:s=S []:=zc5 h0
  clear h0 hs
  go_enter Tryz.func111,Tryz.ntmps111
  go_wp2_with fail
  go_ret2
  exact ⟨rfl,Qb.refl _⟩
 have hpos:0 < s.size:=by omega
 have he1:=zd3 hpos
 have hne:=Lib.hid (zpb hpos)
 clear h0
 by_cases h253:253 < s.size
 ·have HE:Hid (zaK s.data.toList=(5,[])):=Lib.hid (by unfold zaK; rw [if_neg hne.out,if_pos (by rw [zaa]; exact h253)])
  go_enter Tryz.func111,Tryz.ntmps111
  go_wp2_with fail
  go_ret2
  exact ⟨by rw [HE.out]; rfl,Qb.refl _⟩
 have h253':s.size ≤ 253:=by omega
 have hml:s.size ≤ maxLen:=by unfold maxLen; omega
 have HE:Hid (zaK s.data.toList=if (zcz s.data.toList || zcs s.data.toList)=true then (0,zbi s.data.toList) else (50,[])):=Lib.hid (by unfold zaK; rw [if_neg hne.out,if_neg (by rw [zaa]; omega)])
 clear h253
 rcases h1:zcs s.data.toList with _ | _
 ·rcases h2:zcz s.data.toList with _ | _
  ·have HF:Hid (zaK s.data.toList=(50,[])):=Lib.hid (by rw [HE.out,h1,h2]; rfl)
   have H1:=Lib.hid h1
   have H2:=Lib.hid h2
   clear h1 h2
   go_enter Tryz.func111,Tryz.ntmps111
   go_wp2_with fail
   refine (zei s _ (by omega)).mono ?_
   rintro e w1 ⟨rfl,hq1⟩
   rw [H1.out]
   go_wp2_with fail
   refine (zjj s _ (by omega)).mono ?_
   rintro e w2 ⟨rfl,hq2⟩
   rw [H2.out]
   go_wp2_with fail
   go_ret2
   exact ⟨by rw [HF.out]; rfl,hq1.trans hq2⟩
  ·have HF:Hid (zaK s.data.toList=(0,zbi s.data.toList)):=Lib.hid (by rw [HE.out,h1,h2]; rfl)
   have H1:=Lib.hid h1
   have H2:=Lib.hid h2
   clear h1 h2
   go_enter Tryz.func111,Tryz.ntmps111
   go_wp2_with fail
   refine (zei s _ (by omega)).mono ?_
   rintro e w1 ⟨rfl,hq1⟩
   rw [H1.out]
   go_wp2_with fail
   refine (zjj s _ (by omega)).mono ?_
   rintro e w2 ⟨rfl,hq2⟩
   rw [H2.out]
   go_wp2_with fail
   refine (zdK s _ (by omega)).mono ?_
   rintro e w3 ⟨rfl,hq3⟩
   go_wp2_with fail
   go_ret2
   exact ⟨by rw [HF.out]; rfl,(hq1.trans hq2).trans hq3⟩
 ·have HF:Hid (zaK s.data.toList=(0,zbi s.data.toList)):=Lib.hid (by rw [HE.out,h1]; simp)
  have H1:=Lib.hid h1
  clear h1
  go_enter Tryz.func111,Tryz.ntmps111
  go_wp2_with fail
  refine (zei s _ (by omega)).mono ?_
  rintro e w1 ⟨rfl,hq1⟩
  rw [H1.out]
  go_wp2_with fail
  refine (zdK s _ (by omega)).mono ?_
  rintro e w3 ⟨rfl,hq3⟩
  go_wp2_with fail
  go_ret2
  exact ⟨by rw [HF.out]; rfl,hq1.trans hq3⟩
end Go.Proofs.YtljbdpihiboeaaaGreatDoor
namespace Go.Proofs.YtljbdpihiboeaaaGreatDoor
open Go.RowKit
def hpE (l:List UInt8):Int × List UInt8 × Nat :=
 if (zaK (zaq 58 l).1).1 ≠ 0 then ((zaK (zaq 58 l).1).1,[],0)
 else if (zaq 58 l).2.2=false then (0,(zaK (zaq 58 l).1).2,0)
 else if (zcZ (zaq 58 l).2.1).1 ≠ 0 then ((zcZ (zaq 58 l).2.1).1,[],0)
 else (0,(zaK (zaq 58 l).1).2,if (zcZ (zaq 58 l).2.1).2=443 then 0 else (zcZ (zaq 58 l).2.1).2)
def hpV (r:Int × List UInt8 × Nat):Value:=.tuple #[.agg #[.string (S r.2.1),.int .i64 r.2.2],.int .i64 r.1]
theorem zqH (s:ByteArray) (w:World) (hs:s.size ≤ maxLen) :
  Calls Tryz.prog 196 #[.string s] w fun e w' => e=.returned (hpV (hpE s.data.toList)) ∧ Qb w w':=by
 obtain ⟨p,q,b,hcut⟩:∃ p q b,zaq 58 s.data.toList=(p,q,b):=⟨_,_,_,rfl⟩
 obtain ⟨he,h,hh⟩:∃ he h,zaK p=(he,h):=⟨_,_,rfl⟩
 obtain ⟨pe,pn,hp⟩:∃ pe pn,zcZ q=(pe,pn):=⟨_,_,rfl⟩
 have HC:=Lib.hid hcut
 have HH:=Lib.hid hh
 have HP:=Lib.hid hp
 have hsp:(S p).size ≤ maxLen:=by
  have:=(za2 58 s.data.toList).1
  rw [hcut,zaa] at this; rw [zac]; simp at this; omega
 have hsq:(S q).size ≤ maxLen:=by
  have:=(za2 58 s.data.toList).2
  rw [hcut,zaa] at this; rw [zac]; simp at this; omega
 have HE:Hid (hpE s.data.toList=if he ≠ 0 then (he,[],0) else if b=false then (0,h,0) else if pe ≠ 0 then (pe,[],0) else (0,h,if pn=443 then 0 else pn)):=Lib.hid (by
  unfold hpE; rw [hcut]; simp only; rw [hh,hp])
 clear hcut hh hp
 by_cases hee:he=0
 ·subst hee
  rcases b with _ | _
  ·have HF:Hid (hpE s.data.toList=(0,h,0)):=Lib.hid (by rw [HE.out,if_neg (by simp),if_pos rfl])
   go_enter Tryz.func196,Tryz.ntmps196
   go_wp2_with fail
   refine (zbe s 58 _ hs).mono ?_
   rintro e w1 ⟨rfl,hq1⟩
   rw [HC.out]
   unfold zeL
   go_wp2_with fail
   refine (zcM _ _ hsp).mono ?_
   rintro e w2 ⟨rfl,hq2⟩
   rw [zab,HH.out]
   unfold zcX
   have hk:=(Obk.new w _ _).qb (hq1.trans hq2)
   have hc0:=hk.cell 0
   have hc1:=hk.cell 1
   have hf0:=hk.frozen 0
   have hf1:=hk.frozen 1
   simp at hc0 hc1
   go_wp2_with fail
   exact bodyPost_ret (v:=hpV (0,h,0)) (by simp [results,Tryz.results196,go_sem,hc0,hc1,hf0,hf1,hpV]) rfl ⟨by rw [HF.out],((((Qb.refl w).alloc _).trans (hq1.trans hq2)).set (Nat.le_refl _) _).set (Nat.le_refl _) _⟩
  ·by_cases hpe:pe=0
   ·subst hpe
    by_cases h443:pn=443
    ·subst h443
     have HF:Hid (hpE s.data.toList=(0,h,0)):=Lib.hid (by rw [HE.out,if_neg (by simp),if_neg (by simp),if_neg (by simp),if_pos rfl])
     go_enter Tryz.func196,Tryz.ntmps196
     go_wp2_with fail
     refine (zbe s 58 _ hs).mono ?_
     rintro e w1 ⟨rfl,hq1⟩
     rw [HC.out]
     unfold zeL
     go_wp2_with fail
     refine (zcM _ _ hsp).mono ?_
     rintro e w2 ⟨rfl,hq2⟩
     rw [zab,HH.out]
     unfold zcX
     go_wp2_with fail
     refine (zi1 _ _ hsq).mono ?_
     rintro e w3 ⟨rfl,rfl⟩
     rw [zab,HP.out]
     unfold zoP
     have hk:=(Obk.new w _ _).qb (hq1.trans hq2)
     have hc0:=hk.cell 0
     have hc1:=hk.cell 1
     have hf0:=hk.frozen 0
     have hf1:=hk.frozen 1
     simp at hc0 hc1
     go_wp2_with fail
     exact bodyPost_ret (v:=hpV (0,h,0)) (by simp [results,Tryz.results196,go_sem,hc0,hc1,hf0,hf1,hpV]) rfl ⟨by rw [HF.out],((((Qb.refl w).alloc _).trans (hq1.trans hq2)).set (Nat.le_refl _) _).set (Nat.le_refl _) _⟩
    ·have HF:Hid (hpE s.data.toList=(0,h,pn)):=Lib.hid (by rw [HE.out,if_neg (by simp),if_neg (by simp),if_neg (by simp),if_neg h443])
     have hb4:((pn:Int) == 443)=false:=by rw [beq_eq_false_iff_ne]; omega
     go_enter Tryz.func196,Tryz.ntmps196
     go_wp2_with fail
     refine (zbe s 58 _ hs).mono ?_
     rintro e w1 ⟨rfl,hq1⟩
     rw [HC.out]
     unfold zeL
     go_wp2_with fail
     refine (zcM _ _ hsp).mono ?_
     rintro e w2 ⟨rfl,hq2⟩
     rw [zab,HH.out]
     unfold zcX
     go_wp2_with fail
     refine (zi1 _ _ hsq).mono ?_
     rintro e w3 ⟨rfl,rfl⟩
     rw [zab,HP.out]
     unfold zoP
     have hk:=(Obk.new w _ _).qb (hq1.trans hq2)
     have hc0:=hk.cell 0
     have hc1:=hk.cell 1
     have hf0:=hk.frozen 0
     have hf1:=hk.frozen 1
     simp at hc0 hc1
     go_wp2_with fail
     exact bodyPost_ret (v:=hpV (0,h,pn)) (by simp [results,Tryz.results196,go_sem,hc0,hc1,hf0,hf1,hpV]) rfl ⟨by rw [HF.out],((((Qb.refl w).alloc _).trans (hq1.trans hq2)).set (Nat.le_refl _) _).set (Nat.le_refl _) _⟩
   ·have HF:Hid (hpE s.data.toList=(pe,[],0)):=Lib.hid (by rw [HE.out,if_neg (by simp),if_neg (by simp),if_pos hpe])
    have hb:=bne_iff_ne.2 hpe
    go_enter Tryz.func196,Tryz.ntmps196
    go_wp2_with fail
    refine (zbe s 58 _ hs).mono ?_
    rintro e w1 ⟨rfl,hq1⟩
    rw [HC.out]
    unfold zeL
    go_wp2_with fail
    refine (zcM _ _ hsp).mono ?_
    rintro e w2 ⟨rfl,hq2⟩
    rw [zab,HH.out]
    unfold zcX
    go_wp2_with fail
    refine (zi1 _ _ hsq).mono ?_
    rintro e w3 ⟨rfl,rfl⟩
    rw [zab,HP.out]
    unfold zoP
    have hk:=(Obk.new w _ _).qb (hq1.trans hq2)
    have hc0:=hk.cell 0
    have hc1:=hk.cell 1
    have hf0:=hk.frozen 0
    have hf1:=hk.frozen 1
    simp at hc0 hc1
    go_wp2_with fail
    exact bodyPost_ret (v:=hpV (pe,[],0)) (by simp [results,Tryz.results196,go_sem,hc0,hc1,hf0,hf1,hpV]) rfl ⟨by rw [HF.out],((((Qb.refl w).alloc _).trans (hq1.trans hq2)).set (Nat.le_refl _) _).set (Nat.le_refl _) _⟩
 ·have HF:Hid (hpE s.data.toList=(he,[],0)):=Lib.hid (by rw [HE.out,if_pos hee])
  have hb:(he != 0)=true:=bne_iff_ne.2 hee
  go_enter Tryz.func196,Tryz.ntmps196
  go_wp2_with fail
  refine (zbe s 58 _ hs).mono ?_
  rintro e w1 ⟨rfl,hq1⟩
  rw [HC.out]
  unfold zeL
  go_wp2_with fail
  refine (zcM _ _ hsp).mono ?_
  rintro e w2 ⟨rfl,hq2⟩
  rw [zab,HH.out]
  unfold zcX
  have hk:=(Obk.new w _ _).qb (hq1.trans hq2)
  have hc0:=hk.cell 0
  have hc1:=hk.cell 1
  have hf0:=hk.frozen 0
  have hf1:=hk.frozen 1
  simp at hc0 hc1
  go_wp2_with fail
  exact bodyPost_ret (v:=hpV (he,[],0)) (by simp [results,Tryz.results196,go_sem,hc0,hc1,hf0,hf1,hpV]) rfl ⟨by rw [HF.out],((((Qb.refl w).alloc _).trans (hq1.trans hq2)).set (Nat.le_refl _) _).set (Nat.le_refl _) _⟩
end Go.Proofs.YtljbdpihiboeaaaGreatDoor
namespace Go.Proofs.YtljbdpihiboeaaaGreatDoor
theorem low256:∀ n:Fin 256,zc9 (zc9 (UInt8.ofNat n.val))=zc9 (UInt8.ofNat n.val) ∧ lbB (zc9 (UInt8.ofNat n.val))=lbB (UInt8.ofNat n.val) ∧ hyB (zc9 (UInt8.ofNat n.val))=hyB (UInt8.ofNat n.val) ∧ zak (zc9 (UInt8.ofNat n.val))=zak (UInt8.ofNat n.val) ∧ (zc9 (UInt8.ofNat n.val)=46 ↔ UInt8.ofNat n.val=46) ∧ (zak (UInt8.ofNat n.val)=true → zc9 (UInt8.ofNat n.val)=UInt8.ofNat n.val) ∧ (UInt8.ofNat n.val=46 → zc9 (UInt8.ofNat n.val)=UInt8.ofNat n.val):=by decide +kernel
theorem zcr (c:UInt8):zc9 (zc9 c)=zc9 c ∧ lbB (zc9 c)=lbB c ∧ hyB (zc9 c)=hyB c ∧ zak (zc9 c)=zak c ∧ (zc9 c=46 ↔ c=46) ∧ (zak c=true → zc9 c=c) ∧ (c=46 → zc9 c=c):=by
 have:=low256 ⟨c.toNat,c.toNat_lt⟩
 simp only [UInt8.ofNat_toNat] at this
 exact this
theorem zo9 (l:List UInt8):zbi (zbi l)=zbi l:=by
 unfold zbi
 rw [List.map_map]
 exact List.map_congr_left fun c _ => (zcr c).1
theorem ze0 (l:List UInt8):(zbi l).length=l.length:=by simp [zbi]
theorem zhD:∀ l,zag 46 (zbi l)=(zag 46 l).map zbi
 | [] => rfl
 | x :: t => by
  have ih:=zhD t
  obtain ⟨p,ps,e⟩:=zaG 46 t
  rw [e] at ih
  show zag 46 (zc9 x :: zbi t)=_
  rw [zaE,zaE,ih,e]
  by_cases h:x=46
  ·rw [if_pos ((zcr x).2.2.2.2.1.2 h),if_pos h]; rfl
  ·rw [if_neg (fun h2 => h ((zcr x).2.2.2.2.1.1 h2)),if_neg h]; rfl
theorem zqD (p:UInt8 → Bool) (hp:∀ c,p (zc9 c)=p c) (l:List UInt8):(zbi l).all p=l.all p:=by
 unfold zbi
 rw [List.all_map]
 congr 1; funext c; exact hp c
theorem znq (l:List UInt8):zbq (zbi l)=zbq l:=by
 unfold zbq
 rw [zqD lbB (fun c => (zcr c).2.1),ze0]
 have e1:(zbi l).isEmpty=l.isEmpty:=by cases l <;> rfl
 have e2:(zbi l).head?.map hyB=l.head?.map hyB:=by
  cases l with
  | nil => rfl
  | cons c t => simp [zbi,(zcr c).2.2.1]
 have e3:(zbi l).getLast?.map hyB=l.getLast?.map hyB:=by
  unfold zbi
  rw [List.getLast?_map]
  cases l.getLast? with
  | none => rfl
  | some c => simp [(zcr c).2.2.1]
 rw [e1,e2,e3]
theorem zk0 (l:List UInt8):zcw (zbi l)=zcw l:=by
 unfold zcw
 rw [zqD zak (fun c => (zcr c).2.2.2.1)]
 have e1:(zbi l).isEmpty=l.isEmpty:=by cases l <;> rfl
 rw [e1]
theorem zo5 (l:List UInt8):zcz (zbi l)=zcz l:=by
 unfold zcz
 rw [zhD,List.all_map]
 have e1:((zag 46 l).map zbi).getLastD []=zbi ((zag 46 l).getLastD []):=by
  rw [List.getLastD_eq_getLast?,List.getLastD_eq_getLast?,List.getLast?_map]
  cases (zag 46 l).getLast? <;> rfl
 rw [e1,zk0]
 congr 1
 congr 1
 funext x
 exact znq x
theorem znz {l:List UInt8} (h:zcT l=true):zbi l=l:=by
 unfold zcT at h
 have h1:=of_decide_eq_true h
 unfold zaF at h1
 split at h1
 ·rename_i h2
  have h3:=(zeH h2).2
  unfold zbi
  rw [List.all_eq_true] at h3
  have:l.map zc9=l.map id:=List.map_congr_left fun c hc => (zcr c).2.2.2.2.2.1 (h3 c hc)
  rw [this,List.map_id]
 ·rename_i h2; exact absurd h1 h2
theorem zej:∀ l:List UInt8,(∀ p ∈ zag 46 l,zbi p=p) → zbi l=l
 | [],_ => rfl
 | x :: t,h => by
  obtain ⟨p,ps,e⟩:=zaG 46 t
  rw [zaE,e] at h
  by_cases hx:x=46
  ·rw [if_pos hx] at h
   have ih:=zej t (by rw [e]; intro q hq; exact h q (List.mem_cons_of_mem _ hq))
   show zc9 x :: zbi t=_
   rw [ih,(zcr x).2.2.2.2.2.2 hx]
  ·rw [if_neg hx] at h
   have h1:=h (x :: p) (List.mem_cons_self ..)
   have h2:zc9 x=x ∧ zbi p=p:=by
    have:zc9 x :: zbi p=x :: p:=h1
    injection this with a b; exact ⟨a,b⟩
   have ih:=zej t (by
    rw [e]; intro q hq
    rcases List.mem_cons.1 hq with rfl | hq
    ·exact h2.2
    ·exact h q (List.mem_cons_of_mem _ hq))
   show zc9 x :: zbi t=_
   rw [ih,h2.1]
theorem ipv4_low {l:List UInt8} (h:zcs l=true):zbi l=l:=by
 refine zej l fun p hp => ?_
 unfold zcs zkr at h
 simp only [Bool.and_eq_true,List.all_eq_true] at h
 exact znz (h.2 p hp)
theorem zfT {q h:List UInt8} (hh:zaK q=(0,h)):zaK h=(0,h) ∧ h.length=q.length ∧ h.length ≤ 253 ∧ h=zbi q:=by
 unfold zaK at hh
 split at hh
 ·cases hh
 ·rename_i h0
  split at hh
  ·cases hh
  ·rename_i h1
   split at hh
   ·rename_i h2
    injection hh with _ hh; subst hh
    have hl:=ze0 q
    refine ⟨?_,hl,by omega,rfl⟩
    unfold zaK
    rw [if_neg (by intro e; rw [e] at hl; exact h0 (List.eq_nil_of_length_eq_zero (by simpa using hl.symm))),if_neg (by omega),zo9]
    rw [if_pos]
    rw [zo5]
    rw [Bool.or_eq_true] at h2 ⊢
    rcases h2 with h2 | h2
    ·exact .inl h2
    ·exact .inr (by rw [ipv4_low h2]; exact h2)
   ·cases hh
end Go.Proofs.YtljbdpihiboeaaaGreatDoor
namespace Go.Proofs.YtljbdpihiboeaaaGreatDoor
open Go.RowKit
def hvN (c:UInt8):Nat:=if c.toNat ≤ 57 then c.toNat - 48 else if c.toNat ≤ 70 then c.toNat - 55 else c.toNat - 87
def hv (c:UInt8):UInt8:=UInt8.ofNat (hvN c)
theorem zg3 {c:UInt8} (h:zbj c=true):48 ≤ c.toNat ∧ c.toNat ≤ 57 ∨ 97 ≤ c.toNat ∧ c.toNat ≤ 102 ∨ 65 ≤ c.toNat ∧ c.toNat ≤ 70:=of_decide_eq_true h
theorem zcP {c:UInt8} (h:zbj c=true):(hv c).toNat=hvN c ∧ hvN c < 16:=by
 have:=zg3 h
 have h2:hvN c < 16:=by unfold hvN; (repeat' split) <;> omega
 exact ⟨by unfold hv; rw [UInt8.toNat_ofNat']; omega,h2⟩
theorem and_223:∀ n:Fin 256,bits .and .u8 ((n.val:Nat):Int) 223=((n.val &&& 223:Nat):Int):=by decide +kernel
theorem and_15:∀ n:Fin 256,bits .and .u8 ((n.val:Nat):Int) 15=((n.val % 16:Nat):Int):=by decide +kernel
theorem hex_223:∀ n:Fin 256,(97 ≤ n.val ∧ n.val ≤ 102 ∨ 65 ≤ n.val ∧ n.val ≤ 70) → (n.val &&& 223)=(if n.val ≤ 70 then n.val else n.val - 32):=by decide +kernel
theorem zhO (c:UInt8) (h:zbj c=true) (w:World) :
  Calls Tryz.prog 237 #[.int .u8 c.toNat] w fun e w' => e=.returned (.int .u8 (hv c).toNat) ∧ w=w':=by
 have H:=Lib.hid h
 clear h
 go_enter Tryz.func237,Tryz.ntmps237
 go_wp2_with (go_at_call 177; refine (zaT _ _).mono ?_; rintro e w' ⟨rfl,rfl⟩)
 ·have hd:zak c=true:=by assumption
  go_ret
  refine ⟨zdf ?_,rfl⟩
  have h1:=zcP H.out
  have h2:48 ≤ c.toNat ∧ c.toNat ≤ 57:=of_decide_eq_true hd
  rw [h1.1]; unfold hvN; rw [if_pos h2.2]; omega
 ·have hd:zak c=false:=by assumption
  go_ret
  refine ⟨zdf ?_,rfl⟩
  have h1:=zcP H.out
  have h2:¬ (48 ≤ c.toNat ∧ c.toNat ≤ 57):=of_decide_eq_false hd
  have h3:=zg3 H.out
  rw [h1.1,and_223 ⟨c.toNat,c.toNat_lt⟩,hex_223 ⟨c.toNat,c.toNat_lt⟩ (by show _ ∨ _; simp only; omega)]
  unfold hvN
  simp only
  split <;> split <;> (try split) <;> omega
theorem znd (c:UInt8) (h:zbj c=true) (w:World) :
  Calls Tryz.prog 168 #[.int .u8 c.toNat] w fun e w' => e=.returned (.int .u8 (hv c).toNat) ∧ w=w':=by
 have h1:=zcP h
 have h3:=zg3 h
 have H:=Lib.hid (And.intro h1 h3)
 clear h h1 h3
 go_enter Tryz.func168,Tryz.ntmps168
 go_wp2
 all_goals go_ret
 all_goals refine ⟨zdf ?_,rfl⟩
 all_goals have h1:=H.out.1
 all_goals have h3:=H.out.2
 all_goals rw [h1.1]
 all_goals unfold hvN
 all_goals (repeat' split) <;> omega
def zdn (n:Nat):UInt8:=[48,49,50,51,52,53,54,55,56,57,65,66,67,68,69,70].getD n 0
def zc3 (c:UInt8):List UInt8:=[37,zdn (c.toNat / 16),zdn (c.toNat % 16)]
theorem zgk (i:Nat) (h:i < ByteArray.size { data:=#[48,49,50,51,52,53,54,55,56,57,65,66,67,68,69,70] }) :
  ({ data:=#[48,49,50,51,52,53,54,55,56,57,65,66,67,68,69,70] }:ByteArray)[i]=zdn i:=by
 have h':i < [(48:UInt8),49,50,51,52,53,54,55,56,57,65,66,67,68,69,70].length:=h
 unfold zdn
 rw [List.getD_eq_getElem?_getD,List.getElem?_eq_getElem h']
 rfl
theorem news3 (W:World) (a b c:Value):∀ j u,[a,b,c][j]? = some u → (W.alloc (.cells #[a,b,c] 5)).cell? ((⟨W.heap.size,0,none⟩:Addr).add j)=some u:=by
 intro j u hj
 rw [zaR,World.cell?_alloc_at _ _ _ _ rfl]
 simpa using hj
theorem ziC (W:World) (a:Value):∀ j u,[a][j]? = some u → (W.alloc (.cells #[a] 5)).cell? ((⟨W.heap.size,0,none⟩:Addr).add j)=some u:=by
 intro j u hj
 rw [zaR,World.cell?_alloc_at _ _ _ _ rfl]
 simpa using hj
theorem znu (c:UInt8) (i j:Nat) (hi:i=c.toNat / 16) (hj:j=c.toNat % 16) (h1:i < ByteArray.size { data:=#[48,49,50,51,52,53,54,55,56,57,65,66,67,68,69,70] }) (h2:j < ByteArray.size { data:=#[48,49,50,51,52,53,54,55,56,57,65,66,67,68,69,70] }) :
  bv (zc3 c)=[.int .u8 37,.int .u8 (({ data:=#[48,49,50,51,52,53,54,55,56,57,65,66,67,68,69,70] }:ByteArray)[i]).toNat,.int .u8 (({ data:=#[48,49,50,51,52,53,54,55,56,57,65,66,67,68,69,70] }:ByteArray)[j]).toNat]:=by
 rw [zgk,zgk,hi,hj]; rfl
theorem zeb (v:Value) (l:List UInt8) (c:UInt8) (B:Nat) (w:World) (h:zcg w B v l) (hl:l.length ≤ 1000000000) (hB:B ≤ w.heap.size) :
  Calls Tryz.prog 86 #[v,.int .u8 c.toNat] w fun e w' => ∃ v',e=.returned v' ∧ zcg w' B v' (l ++ zc3 c) ∧ Below B w w':=by
 have hc:=c.toNat_lt
 have a1:(0:Int) ≤ (c.toNat:Int) / 16:=by omega
 have a2:(c.toNat:Int) / 16 < 16:=by omega
 have b1:(0:Int) ≤ (c.toNat:Int) % 16:=by omega
 have b2:(c.toNat:Int) % 16 < 16:=by omega
 have hand:=and_15 ⟨c.toNat,c.toNat_lt⟩
 simp only at hand
 have hcells:=Lib.hid (znu c ((c.toNat:Int) / 16).toNat ((c.toNat:Int) % 16).toNat (by omega) (by omega) (by show _ < 16; omega) (by show _ < 16; omega))
 go_enter Tryz.func86,Tryz.ntmps86
 go_wp2_with fail
 go_region_law (first | (refine zgx rfl (.tmp 5) (.tmp 12) rfl B v l (zc3 c) rfl (zcg.drew (h.alloc _)) _ _ _ rfl rfl (by rw [hcells.out]; exact news3 _ _ _ _) (by simp [zc3]; omega) (by simp; omega) ?_; intro v1 w1 hr1 hb1) | fail)
 all_goals have hb2:Below B w w1:=(((Below.refl B w).alloc hB _).drew).trans hb1
 all_goals (try go_wp2_with fail)
 all_goals go_ret
 all_goals exact ⟨_,rfl,hr1,hb2⟩
theorem crow3 (W:World) (x y z:UInt8):Crow ((W.alloc (.cells #[.int .u8 x.toNat,.int .u8 y.toNat,.int .u8 z.toNat] 5)).drew) W.heap.size [x,y,z]:=by
 intro j hj
 refine ⟨?_,World.frozen?_alloc_at _ _ _ _ rfl⟩
 show (W.alloc _).cell? _=_
 rw [World.cell?_alloc_at _ _ _ _ rfl]
 match j,hj with
 | 0,_ => rfl
 | 1,_ => rfl
 | 2,_ => rfl
theorem zdX (c:UInt8) (w:World) :
  Calls Tryz.prog 93 #[.int .u8 c.toNat] w fun e w' => e=.returned (.string (S (zc3 c))) ∧ Qb w w':=by
 have hc:=c.toNat_lt
 have e1:=zgk (c.toNat / 16) (by show _ < 16; omega)
 have e2:=zgk (c.toNat % 16) (by show _ < 16; omega)
 have hst:(convert 24 9 (.slice (some ⟨w.heap.size,0,none⟩) 3 3)).run Tryz.prog ((w.alloc (.cells #[.int .u8 37,.int .u8 (zdn (c.toNat / 16)).toNat,.int .u8 (zdn (c.toNat % 16)).toNat] 5)).drew)=.ok (.string ⟨[37,zdn (c.toNat / 16),zdn (c.toNat % 16)].toArray⟩) _:=(crow3 w 37 (zdn (c.toNat / 16)) (zdn (c.toNat % 16))).str 3 3 rfl
 rw [← e1,← e2] at hst
 have H:=Lib.hid (And.intro e1 e2)
 clear e1 e2
 have a1:(0:Int) ≤ (c.toNat:Int) / 16:=by omega
 have a2:(c.toNat:Int) / 16 < 16:=by omega
 have b1:(0:Int) ≤ (c.toNat:Int) % 16:=by omega
 have b2:(c.toNat:Int) % 16 < 16:=by omega
 go_enter Tryz.func93,Tryz.ntmps93
 go_wp2_with fail
 go_region
 all_goals (try go_wp2_with fail)
 all_goals go_ret
 all_goals refine ⟨zeh ?_,((Qb.refl w).alloc _).drew⟩
 all_goals rw [H.out.1,H.out.2]
 all_goals rfl
def zaQ (c:UInt8) (also:List UInt8):Bool:=zau c || (c.toNat != 37 && zbb c also)
theorem zcG (c:UInt8) (s:ByteArray) (w:World) :
  Calls Tryz.prog 85 #[.int .u8 c.toNat,.string s] w fun e w' => e=.returned (.bool (zaQ c s.data.toList)) ∧ w=w':=by
 go_enter Tryz.func85,Tryz.ntmps85
 go_wp2_with (first | (go_at_call 120; refine (zcf _ _).mono ?_; rintro e w' ⟨rfl,rfl⟩) | (go_at_call 121; refine (Tryz.strings_IndexByte _ _ _).mono ?_; rintro e w' ⟨rfl,rfl⟩))
 ·have h1:zau c=true:=by assumption
  go_ret
  exact ⟨zaj (by unfold zaQ; rw [h1]; rfl),rfl⟩
 ·have h1:¬ zau c=true:=by assumption
  have h2:(c.toNat:Int)=37:=by assumption
  go_ret
  refine ⟨zaj ?_,rfl⟩
  unfold zaQ
  have h3:c.toNat=37:=by omega
  rw [Bool.eq_false_iff.2 h1,h3]; rfl
 ·have h1:¬ zau c=true:=by assumption
  have h2:¬ (c.toNat:Int)=37:=by assumption
  go_ret
  refine ⟨zaj ?_,rfl⟩
  unfold zaQ zbb
  have h3:¬ c.toNat=37:=by omega
  rw [Bool.eq_false_iff.2 h1,Lib.contains_iff_indexByte,bne_iff_ne.2 h3,bne_iff_ne.2 h2]; rfl
def zbp:List UInt8 → Bool
 | _ :: a :: b :: _ => zbj a && zbj b
 | _ => false
def zcl:List UInt8 → UInt8
 | _ :: a :: b :: _ => UInt8.ofNat (16 * hvN a + hvN b)
 | _ => 0
theorem drop3 (s:ByteArray) (k:Nat) (h:k + 2 < s.size):s.data.toList.drop k=s[k] :: s[k + 1] :: s[k + 2] :: s.data.toList.drop (k + 3):=by
 rw [zaX s k (by omega),zaX s (k + 1) (by omega),zaX s (k + 2) (by omega)]
theorem ze2 (s:ByteArray) (k:Nat) (h:¬ k + 2 < s.size):zbp (s.data.toList.drop k)=false:=by
 have hl:(s.data.toList.drop k).length ≤ 2:=by rw [List.length_drop,zaa]; omega
 revert hl
 generalize s.data.toList.drop k=l
 intro hl
 match l,hl with
 | [],_ => rfl
 | [_],_ => rfl
 | [_,_],_ => rfl
theorem zcJ (s:ByteArray) (k:Nat) (hk:k ≤ s.size) (hs:s.size ≤ maxLen) (w:World) :
  Calls Tryz.prog 236 #[.string s,.int .i64 k] w fun e w' => e=.returned (.bool (zbp (s.data.toList.drop k))) ∧ w=w':=by
 unfold maxLen at hs
 by_cases hlt:k + 2 < s.size
 ·have HD:=Lib.hid (drop3 s k hlt)
  go_enter Tryz.func236,Tryz.ntmps236
  go_wp2_with (go_at_call 257; refine (zqI _ _).mono ?_; rintro e w' ⟨rfl,rfl⟩)
  ·have h1:zbj s[k + 1]=true:=by assumption
   go_ret
   exact ⟨zaj (by rw [HD.out]; simp only [zbp,h1,Bool.true_and]),rfl⟩
  ·have h1:¬ zbj s[k + 1]=true:=by assumption
   go_ret
   exact ⟨zaj (by rw [HD.out]; simp only [zbp,Bool.eq_false_iff.2 h1,Bool.false_and]),rfl⟩
 ·have HD:=Lib.hid (ze2 s k hlt)
  go_enter Tryz.func236,Tryz.ntmps236
  go_wp2_with fail
  go_ret
  exact ⟨zaj HD.out.symm,rfl⟩
theorem zml {a b:UInt8} (ha:zbj a=true) (hb:zbj b=true):(UInt8.ofNat (16 * hvN a + hvN b)).toNat=16 * (hv a).toNat + (hv b).toNat:=by
 have h1:=zcP ha
 have h2:=zcP hb
 rw [UInt8.toNat_ofNat',h1.1,h2.1]; omega
def znt (l:List UInt8):UInt8:=if zbp l=true then zcl l else 0
theorem zkW {l:List UInt8} (h:zbp l=false):znt l=0:=by unfold znt; rw [if_neg (by rw [h]; exact Bool.false_ne_true)]
theorem ziP {l:List UInt8} (h:zbp l=true):znt l=zcl l:=if_pos h
theorem zdg (s:ByteArray) (k:Nat) (hk:k < s.size) (hs:s.size ≤ 140737488351232) (h37:s[k]=37) (w:World) :
  Calls Tryz.prog 136 #[.string s,.int .i64 k] w fun e w' => e=.returned (.tuple #[.int .u8 (znt (s.data.toList.drop k)).toNat,.bool (zbp (s.data.toList.drop k))]) ∧ Qb w w':=by
 have hne:((s[k].toNat:Int) != 37)=false:=by rw [h37]; rfl
 have H37:=Lib.hid h37
 clear h37
 by_cases hlt:k + 2 < s.size
 ·have HD:=Lib.hid (drop3 s k hlt)
  rcases ha:zbj s[k + 1] with _ | _
  ·have ho:zbp (s.data.toList.drop k)=false:=by rw [HD.out]; simp only [zbp,ha,Bool.false_and]
   have hr:=zkW ho
   have HO:=Lib.hid (And.intro ho hr)
   clear ho hr
   go_enter Tryz.func136,Tryz.ntmps136
   go_wp2_with (go_at_call 167; refine (zfK _ _).mono ?_; rintro e w' ⟨rfl,rfl⟩)
   go_ret2
   exact ⟨by rw [HO.out.1,HO.out.2]; rfl,Qb.refl w⟩
  ·rcases hb:zbj s[k + 2] with _ | _
   ·have ho:zbp (s.data.toList.drop k)=false:=by rw [HD.out]; simp only [zbp,hb,Bool.and_false]
    have hr:=zkW ho
    have HO:=Lib.hid (And.intro ho hr)
    clear ho hr
    go_enter Tryz.func136,Tryz.ntmps136
    go_wp2_with (go_at_call 167; refine (zfK _ _).mono ?_; rintro e w' ⟨rfl,rfl⟩)
    go_ret2
    exact ⟨by rw [HO.out.1,HO.out.2]; rfl,Qb.refl w⟩
   ·have n1:=(zcP ha).2
    rw [← (zcP ha).1] at n1
    have n2:=(zcP hb).2
    rw [← (zcP hb).1] at n2
    have ho:zbp (s.data.toList.drop k)=true:=by rw [HD.out]; simp only [zbp,ha,hb,Bool.and_true]
    have hr:=ziP ho
    have hv2:(zcl (s.data.toList.drop k)).toNat=16 * (hv s[k + 1]).toNat + (hv s[k + 2]).toNat:=by
     rw [HD.out]; exact zml ha hb
    have HO:=Lib.hid (And.intro ho (And.intro hr hv2))
    clear ho hr hv2
    go_enter Tryz.func136,Tryz.ntmps136
    go_wp2_with (go_at_call 167; refine (zfK _ _).mono ?_; rintro e w' ⟨rfl,rfl⟩)
    go_quiet ((go_at_call 168; exact zc8 (znd _ (by assumption) _)))
    go_wp2_with fail
    go_ret2
    exact ⟨by rw [HO.out.1,HO.out.2.1,HO.out.2.2,Int.natCast_add,Int.natCast_mul]; rfl,(Qb.refl w).drewN _⟩
 ·have ho:=ze2 s k hlt
  have hr:=zkW ho
  have HO:=Lib.hid (And.intro ho hr)
  clear ho hr
  go_enter Tryz.func136,Tryz.ntmps136
  go_wp2_with fail
  go_ret2
  exact ⟨by rw [HO.out.1,HO.out.2]; rfl,Qb.refl w⟩
end Go.Proofs.YtljbdpihiboeaaaGreatDoor
namespace Go.Proofs.YtljbdpihiboeaaaGreatDoor
open Go.RowKit
abbrev zhy:=List UInt8 → UInt8 → Bool → Int × List UInt8
def rwS (add:zhy):Nat → List UInt8 → List UInt8 → Int × List UInt8
 | _,[],out => (0,out)
 | n + 1,_ :: l,out => rwS add n l out
 | 0,c :: l,out =>
  if c=37 then
   if zbp (c :: l)=true then
    if (add out (zcl (c :: l)) true).1=0 then rwS add 2 l (add out (zcl (c :: l)) true).2 else ((add out (zcl (c :: l)) true).1,[])
   else (2,[])
  else if (add out c false).1=0 then rwS add 0 l (add out c false).2 else ((add out c false).1,[])
section
variable (add:zhy) (s:ByteArray) (k:Nat) (out:List UInt8)
theorem zio (n:Nat) (h:¬ k < s.size):rwS add n (s.data.toList.drop k) out=(0,out):=by
 rw [List.drop_of_length_le (by rw [zaa]; omega),rwS]
theorem zln (m:Nat) (h:k < s.size) (hm:k < m):rwS add (m - k) (s.data.toList.drop k) out=rwS add (m - (k + 1)) (s.data.toList.drop (k + 1)) out:=by
 rw [zaX s k h,show m - k=(m - (k + 1)) + 1 from by omega,rwS]
theorem zip (h:k < s.size) (hc:s[k]=37) (he:zbp (s.data.toList.drop k)=false):rwS add 0 (s.data.toList.drop k) out=(2,[]):=by
 rw [zaX s k h] at he ⊢
 rw [rwS,if_pos hc,if_neg (by rw [he]; exact Bool.false_ne_true)]
theorem zgI (h:k < s.size) (hc:s[k]=37) (he:zbp (s.data.toList.drop k)=true) (ha:(add out (zcl (s.data.toList.drop k)) true).1=0) :
  rwS add 0 (s.data.toList.drop k) out=rwS add (k + 3 - (k + 1)) (s.data.toList.drop (k + 1)) (add out (zcl (s.data.toList.drop k)) true).2:=by
 rw [zaX s k h] at he ha
 rw [show k + 3 - (k + 1)=2 from by omega]
 conv => lhs; rw [zaX s k h]
 rw [rwS,if_pos hc,if_pos he,if_pos ha,← zaX s k h]
theorem zgH (h:k < s.size) (hc:s[k]=37) (he:zbp (s.data.toList.drop k)=true) (ha:(add out (zcl (s.data.toList.drop k)) true).1 ≠ 0) :
  rwS add 0 (s.data.toList.drop k) out=((add out (zcl (s.data.toList.drop k)) true).1,[]):=by
 rw [zaX s k h] at he ha ⊢
 rw [rwS,if_pos hc,if_pos he,if_neg ha]
theorem zim (h:k < s.size) (hc:s[k] ≠ 37) (ha:(add out s[k] false).1=0) :
  rwS add 0 (s.data.toList.drop k) out=rwS add (k + 1 - (k + 1)) (s.data.toList.drop (k + 1)) (add out s[k] false).2:=by
 rw [Nat.sub_self]
 conv => lhs; rw [zaX s k h]
 rw [rwS,if_neg hc,if_pos ha]
theorem zeU (h:k < s.size) (hc:s[k] ≠ 37) (ha:(add out s[k] false).1 ≠ 0) :
  rwS add 0 (s.data.toList.drop k) out=((add out s[k] false).1,[]):=by
 conv => lhs; rw [zaX s k h]
 rw [rwS,if_neg hc,if_neg ha]
theorem zfU (he:zbp (s.data.toList.drop k)=true):k + 2 < s.size:=by
 rcases Nat.lt_or_ge (k + 2) s.size with h | h
 ·exact h
 ·rw [ze2 s k (by omega)] at he; cases he
theorem zj5 (he:zbp (s.data.toList.drop k)=true):∃ h:k + 2 < s.size,zbj s[k + 1]=true ∧ zbj s[k + 2]=true ∧ (zcl (s.data.toList.drop k)).toNat=16 * (hv s[k + 1]).toNat + (hv s[k + 2]).toNat:=by
 have h:=zfU s k he
 rw [drop3 s k h] at he ⊢
 simp only [zbp,Bool.and_eq_true] at he
 exact ⟨h,he.1,he.2,zml he.1 he.2⟩
end
def zcd:zhy:=fun out x _ => (0,out ++ [x])
def zb8 (also:List UInt8):zhy:=fun out x e => if (e && !zau x)=true then (0,out ++ zc3 x) else if zaQ x also=true then (0,out ++ [x]) else (1,[])
def ze6 (r:Int × List UInt8) (n:Nat):Int × List UInt8:=if 16384 < n then (5,[]) else r
def zaO (l:List UInt8):Int × List UInt8:=ze6 (rwS zcd 0 l []) l.length
def zai (l also:List UInt8):Int × List UInt8:=ze6 (rwS (zb8 also) 0 l []) l.length
def zbU (l keep:List UInt8):List UInt8:=l.flatMap fun c => if zaQ c keep=true then [c] else zc3 c
theorem or_shl:∀ a b:Fin 16,bits .or .u8 (((a.val * 16:Nat):Int)) ((b.val:Nat):Int)=((16 * a.val + b.val:Nat):Int):=by decide +kernel
def zqK (r:Int × List UInt8) (B:Nat) (w:World) (en:Ending) (w':World):Prop :=
 ∃ v',en=.returned (.tuple #[v',.int .i64 r.1]) ∧ (r.1=0 → zcg w' B v' r.2) ∧ Below B w w'
theorem zh5 (v:Value) (l:List UInt8) (x:UInt8) (e:Bool) (B:Nat) (w:World) (h:zcg w B v l) (hl:l.length ≤ 1000000000) (hB:B ≤ w.heap.size) :
  Calls Tryz.prog 226 #[v,.int .u8 x.toNat,.bool e] w (zqK (zcd l x e) B w):=by
 go_enter Tryz.func226,Tryz.ntmps226
 go_wp2_with (at_builtin; refine zaN rfl (.tmp 8) (.tmp 10) rfl B v l [x] rfl (h.alloc _) _ _ _ rfl rfl (ziC _ _) (by simp; omega) (by simp; omega) ?_; intro v1 w1 hr1 hb1)
 go_ret2
 exact ⟨v1,rfl,fun _ => hr1,((Below.refl B w).alloc hB _).trans hb1⟩
theorem zcL {also l:List UInt8} {x:UInt8} (hu:zau x=false):zb8 also l x true=(0,l ++ zc3 x):=by unfold zb8; rw [if_pos (by rw [hu]; rfl)]
theorem zaY {also l:List UInt8} {x:UInt8} {e:Bool} (hu:(e && !zau x)=false) (hp:zaQ x also=true):zb8 also l x e=(0,l ++ [x]):=by
 unfold zb8; rw [if_neg (by rw [hu]; exact Bool.false_ne_true),if_pos hp]
theorem zfx {also l:List UInt8} {x:UInt8} {e:Bool} (hu:(e && !zau x)=false) (hp:zaQ x also=false):zb8 also l x e=(1,[]):=by
 unfold zb8; rw [if_neg (by rw [hu]; exact Bool.false_ne_true),if_neg (by rw [hp]; exact Bool.false_ne_true)]
theorem zmU {also l:List UInt8} {x:UInt8} {e:Bool}:(zb8 also l x e).2.length ≤ l.length + 3:=by
 unfold zb8
 repeat' split
 all_goals simp [zc3]
theorem zmV {l:List UInt8} {x:UInt8} {e:Bool}:(zcd l x e).2.length ≤ l.length + 3:=by simp [zcd]
theorem zgZ (v:Value) (l:List UInt8) (x:UInt8) (e:Bool) (B g:Nat) (also:ByteArray) (w:World) (h:zcg w B v l) (hl:l.length ≤ 1000000000) (hB:B ≤ w.heap.size) (hc:w.cell? ⟨g,0,none⟩=some (.string also)) :
  Calls Tryz.prog 204 #[v,.int .u8 x.toNat,.bool e,.pointer (some ⟨g,0,none⟩)] w (zqK (zb8 also.data.toList l x e) B w):=by
 rcases hu:(e && !zau x) with _ | _
 ·rcases hp:zaQ x also.data.toList with _ | _
  ·rw [zfx hu hp]
   cases e
   ·clear hu
    go_enter Tryz.func204,Tryz.ntmps204
    go_wp2_with (go_at_call 85; refine (zcG _ _ _).mono ?_; rintro e w' ⟨rfl,rfl⟩)
    go_ret2
    exact ⟨_,rfl,fun h => absurd h (by decide),Below.refl _ _⟩
   ·have hu':zau x=true:=by simpa using hu
    clear hu
    go_enter Tryz.func204,Tryz.ntmps204
    go_wp2_with (first | (go_at_call 120; refine (zcf _ _).mono ?_; rintro e w' ⟨rfl,rfl⟩) | (go_at_call 85; refine (zcG _ _ _).mono ?_; rintro e w' ⟨rfl,rfl⟩))
    go_ret2
    exact ⟨_,rfl,fun h => absurd h (by decide),Below.refl _ _⟩
  ·rw [zaY hu hp]
   cases e
   ·clear hu
    go_enter Tryz.func204,Tryz.ntmps204
    go_wp2_with (first | (go_at_call 85; refine (zcG _ _ _).mono ?_; rintro e w' ⟨rfl,rfl⟩) | (at_builtin; refine zaN rfl (.tmp 23) (.tmp 25) rfl B v l [x] rfl (h.alloc _) _ _ _ rfl rfl (ziC _ _) (by simp; omega) (by simp; omega) ?_; intro v1 w1 hr1 hb1))
    go_ret2
    exact ⟨v1,rfl,fun _ => hr1,((Below.refl B _).alloc hB _).trans hb1⟩
   ·have hu':zau x=true:=by simpa using hu
    clear hu
    go_enter Tryz.func204,Tryz.ntmps204
    go_wp2_with (first | (go_at_call 120; refine (zcf _ _).mono ?_; rintro e w' ⟨rfl,rfl⟩) | (go_at_call 85; refine (zcG _ _ _).mono ?_; rintro e w' ⟨rfl,rfl⟩) | (at_builtin; refine zaN rfl (.tmp 23) (.tmp 25) rfl B v l [x] rfl (h.alloc _) _ _ _ rfl rfl (ziC _ _) (by simp; omega) (by simp; omega) ?_; intro v1 w1 hr1 hb1))
    go_ret2
    exact ⟨v1,rfl,fun _ => hr1,((Below.refl B _).alloc hB _).trans hb1⟩
 ·have he:e=true:=by cases e <;> simp_all
  subst he
  have hu':zau x=false:=by simpa using hu
  clear hu
  rw [zcL hu']
  go_enter Tryz.func204,Tryz.ntmps204
  go_wp2_with (first | (go_at_call 120; refine (zcf _ _).mono ?_; rintro e w' ⟨rfl,rfl⟩) | (go_at_call 86; refine (zeb v l x B _ h hl hB).mono ?_; rintro e w1 ⟨v1,rfl,hr1,hb1⟩))
  go_ret2
  exact ⟨v1,rfl,fun _ => hr1,hb1⟩
end Go.Proofs.YtljbdpihiboeaaaGreatDoor
namespace Go.Proofs.YtljbdpihiboeaaaGreatDoor
open Go.RowKit
set_option maxHeartbeats 800000 in
theorem zjq (s:ByteArray) (w:World) (hs:s.size ≤ 16384) :
  Calls Tryz.prog 203 #[.string s,.func (.func 226) #[] #[]] w fun e w' => e=.returned (zcX (rwS zcd 0 s.data.toList [])) ∧ Qb w w':=by
 have hmk:=fun W => zfn s.size (by omega) W
 go_enter Tryz.func203,Tryz.ntmps203
 go_wp2_with fail
 clear hmk
 go_loopw [6,7,8,9,10,11,20] (fun v m _ _ _ _ i wr => ∃ k j:Nat,∃ l,k ≤ s.size ∧ k ≤ j ∧ j ≤ s.size ∧ m=.int .i64 j ∧ i=.int .i64 k ∧ zcg wr w.heap.size v l ∧ l.length ≤ 3 * k ∧ Hid (rwS zcd 0 s.data.toList []=rwS zcd (j - k) (s.data.toList.drop k) l) ∧ Qb w wr) (fun _ _ _ _ _ _ i _ => s.size - (intOf i).toNat)
 case atStart => exact ⟨0,0,[],Nat.zero_le _,Nat.le_refl _,Nat.zero_le _,rfl,rfl,zet w _ 0 _ (Nat.le_refl _) (Nat.zero_le _) (by omega),Nat.zero_le _,Lib.hid rfl,(Qb.refl w).alloc _⟩
 case round =>
  obtain ⟨k,j,l,hk,hkj,hj,rfl,rfl,hrow,hlen,HR,hq⟩:=hrel
  by_cases hlt:k < s.size
  ·by_cases hskip:k < j
   ·have HS:=Lib.hid (zln zcd s k l j hlt hskip)
    go_wp2_with fail
    go_roundw
    case rel => exact ⟨k + 1,j,l,by omega,by omega,hj,rfl,by go_num,hrow,by omega,Lib.hid (HR.out.trans HS.out),hq⟩
    case measure => simp [intOf]; omega
   ·obtain rfl:k=j:=by omega
    rw [Nat.sub_self] at HR
    have hB:w.heap.size ≤ wr.heap.size:=hq.size
    by_cases hc:s[k]=37
    ·have h37:((s[k].toNat:Int) == 37)=true:=by rw [hc]; rfl
     have HC:=Lib.hid hc
     clear hc
     rcases he:zbp (s.data.toList.drop k) with _ | _
     ·have HE:=Lib.hid (zip zcd s k l hlt HC.out he)
      go_wp2_with (go_at_call 236; refine (zcJ s k (by omega) (by unfold maxLen; omega) _).mono ?_; rintro e w' ⟨rfl,rfl⟩)
      go_ret2
      exact ⟨by rw [HR.out,HE.out]; rfl,hq⟩
     ·obtain ⟨h2,ha,hb,hv2⟩:=zj5 s k he
      have n1:=(zcP ha).2
      rw [← (zcP ha).1] at n1
      have n2:=(zcP hb).2
      rw [← (zcP hb).1] at n2
      have hor:bits .or .u8 (((hv s[k + 1]).toNat:Int) * 16) ((hv s[k + 2]).toNat:Int)=((zcl (s.data.toList.drop k)).toNat:Int):=by
       rw [hv2,← or_shl ⟨_,n1⟩ ⟨_,n2⟩]; rfl
      have HV:=Lib.hid hor
      have HE0:=Lib.hid he
      clear hv2 hor
      have q1:IntKind.i64.wrap ((k:Int) + 1)=(k:Int) + 1:=IntWalk.i64_in _ (by omega)
      have q2:(0:Int) ≤ (k:Int) + 1:=by omega
      have q3:((k:Int) + 1).toNat=k + 1:=by omega
      have q4:(k:Int) + 1 < s.size:=by omega
      have q5:IntKind.i64.wrap ((k:Int) + 2)=(k:Int) + 2:=IntWalk.i64_in _ (by omega)
      have q6:(0:Int) ≤ (k:Int) + 2:=by omega
      have q7:((k:Int) + 2).toNat=k + 2:=by omega
      have q8:(k:Int) + 2 < s.size:=by omega
      go_wp2_with (go_at_call 236; refine (zcJ s k (by omega) (by unfold maxLen; omega) _).mono ?_; rintro e w' ⟨rfl,rfl⟩)
      go_quiet ((go_at_call 237; exact zc8 (zhO _ (by assumption) _)))
      clear he
      go_wp2_with fail
      rw [HV.out]
      refine (zh5 _ l (zcl (s.data.toList.drop k)) true w.heap.size _ (by exact hrow) (by omega) (by exact hB)).mono ?_
      rintro en w2 ⟨v2,rfl,hr2,hb2⟩
      have hq2:Qb w w2:=Below.trans (hq.drewN _) hb2
      have hl2:=zmV (l:=l) (x:=zcl (s.data.toList.drop k)) (e:=true)
      by_cases h0:(zcd l (zcl (s.data.toList.drop k)) true).1=0
      ·have hr3:=hr2 h0
       have HE:=Lib.hid (zgI zcd s k l hlt HC.out HE0.out h0)
       clear hr2
       generalize hout:(zcd l (zcl (s.data.toList.drop k)) true).2=l2 at *
       have HO:=Lib.hid hout
       clear hout
       go_wp2_with fail
       go_roundw
       case rel => exact ⟨k + 1,k + 3,l2,by omega,by omega,by omega,by go_num,by go_num,hr3,by omega,Lib.hid (HR.out.trans HE.out),hq2⟩
       case measure => simp [intOf]; omega
      ·have HE:=Lib.hid (zgH zcd s k l hlt HC.out HE0.out h0)
       have h1:(((zcd l (zcl (s.data.toList.drop k)) true).1) != 0)=true:=bne_iff_ne.2 h0
       clear h0 hr2
       go_wp2_with fail
       go_ret2
       exact ⟨by rw [HR.out,HE.out]; rfl,hq2⟩
    ·have h37:((s[k].toNat:Int) == 37)=false:=by
      rw [beq_eq_false_iff_ne]
      intro e
      exact hc (UInt8.toNat_inj.1 (show s[k].toNat=37 from by omega))
     have HC:=Lib.hid hc
     clear hc
     all_goals
      go_wp2_with fail
      refine (zh5 _ l (s[k]) false w.heap.size _ (by exact hrow) (by omega) (by exact hB)).mono ?_
      rintro en w2 ⟨v2,rfl,hr2,hb2⟩
      have hq2:Qb w w2:=Below.trans hq hb2
      have hl2:=zmV (l:=l) (x:=s[k]) (e:=false)
      by_cases h0:(zcd l (s[k]) false).1=0
      ·have hr3:=hr2 h0
       have HE:=Lib.hid (zim zcd s k l hlt HC.out h0)
       clear hr2
       generalize hout:(zcd l (s[k]) false).2=l2 at *
       have HO:=Lib.hid hout
       clear hout
       go_wp2_with fail
       go_roundw
       case rel => exact ⟨k + 1,k + 1,l2,by omega,by omega,by omega,by go_num,by go_num,hr3,by omega,Lib.hid (HR.out.trans HE.out),hq2⟩
       case measure => simp [intOf]; omega
      ·have HE:=Lib.hid (zeU zcd s k l hlt HC.out h0)
       have h1:(((zcd l (s[k]) false).1) != 0)=true:=bne_iff_ne.2 h0
       clear h0 hr2
       go_wp2_with fail
       go_ret2
       exact ⟨by rw [HR.out,HE.out]; rfl,hq2⟩
  ·have HE:=Lib.hid (zio zcd s k l (j - k) hlt)
   have hst:=zeV hrow
   go_wp2_with fail
   go_ret2
   exact ⟨by rw [HR.out,HE.out]; rfl,hq⟩
set_option maxHeartbeats 800000 in
theorem zjp (s:ByteArray) (g:Nat) (also:ByteArray) (w:World) (hs:s.size ≤ 16384) (hg:g < w.heap.size) (hc0:w.cell? ⟨g,0,none⟩=some (.string also)) :
  Calls Tryz.prog 203 #[.string s,.func (.func 204) #[] #[.pointer (some ⟨g,0,none⟩)]] w fun e w' => e=.returned (zcX (rwS (zb8 also.data.toList) 0 s.data.toList [])) ∧ Qb w w':=by
 have hmk:=fun W => zfn s.size (by omega) W
 go_enter Tryz.func203,Tryz.ntmps203
 go_wp2_with fail
 clear hmk
 go_loopw [6,7,8,9,10,11,20] (fun v m _ _ _ _ i wr => ∃ k j:Nat,∃ l,k ≤ s.size ∧ k ≤ j ∧ j ≤ s.size ∧ m=.int .i64 j ∧ i=.int .i64 k ∧ zcg wr w.heap.size v l ∧ l.length ≤ 3 * k ∧ Hid (rwS (zb8 also.data.toList) 0 s.data.toList []=rwS (zb8 also.data.toList) (j - k) (s.data.toList.drop k) l) ∧ Qb w wr) (fun _ _ _ _ _ _ i _ => s.size - (intOf i).toNat)
 case atStart => exact ⟨0,0,[],Nat.zero_le _,Nat.le_refl _,Nat.zero_le _,rfl,rfl,zet w _ 0 _ (Nat.le_refl _) (Nat.zero_le _) (by omega),Nat.zero_le _,Lib.hid rfl,(Qb.refl w).alloc _⟩
 case round =>
  obtain ⟨k,j,l,hk,hkj,hj,rfl,rfl,hrow,hlen,HR,hq⟩:=hrel
  by_cases hlt:k < s.size
  ·by_cases hskip:k < j
   ·have HS:=Lib.hid (zln (zb8 also.data.toList) s k l j hlt hskip)
    go_wp2_with fail
    go_roundw
    case rel => exact ⟨k + 1,j,l,by omega,by omega,hj,rfl,by go_num,hrow,by omega,Lib.hid (HR.out.trans HS.out),hq⟩
    case measure => simp [intOf]; omega
   ·obtain rfl:k=j:=by omega
    rw [Nat.sub_self] at HR
    have hB:w.heap.size ≤ wr.heap.size:=hq.size
    have hcw:wr.cell? ⟨g,0,none⟩=some (.string also):=(hq.below.cell (p:=⟨g,0,none⟩) hg).trans hc0
    by_cases hc:s[k]=37
    ·have h37:((s[k].toNat:Int) == 37)=true:=by rw [hc]; rfl
     have HC:=Lib.hid hc
     clear hc
     rcases he:zbp (s.data.toList.drop k) with _ | _
     ·have HE:=Lib.hid (zip (zb8 also.data.toList) s k l hlt HC.out he)
      go_wp2_with (go_at_call 236; refine (zcJ s k (by omega) (by unfold maxLen; omega) _).mono ?_; rintro e w' ⟨rfl,rfl⟩)
      go_ret2
      exact ⟨by rw [HR.out,HE.out]; rfl,hq⟩
     ·obtain ⟨h2,ha,hb,hv2⟩:=zj5 s k he
      have n1:=(zcP ha).2
      rw [← (zcP ha).1] at n1
      have n2:=(zcP hb).2
      rw [← (zcP hb).1] at n2
      have hor:bits .or .u8 (((hv s[k + 1]).toNat:Int) * 16) ((hv s[k + 2]).toNat:Int)=((zcl (s.data.toList.drop k)).toNat:Int):=by
       rw [hv2,← or_shl ⟨_,n1⟩ ⟨_,n2⟩]; rfl
      have HV:=Lib.hid hor
      have HE0:=Lib.hid he
      clear hv2 hor
      have q1:IntKind.i64.wrap ((k:Int) + 1)=(k:Int) + 1:=IntWalk.i64_in _ (by omega)
      have q2:(0:Int) ≤ (k:Int) + 1:=by omega
      have q3:((k:Int) + 1).toNat=k + 1:=by omega
      have q4:(k:Int) + 1 < s.size:=by omega
      have q5:IntKind.i64.wrap ((k:Int) + 2)=(k:Int) + 2:=IntWalk.i64_in _ (by omega)
      have q6:(0:Int) ≤ (k:Int) + 2:=by omega
      have q7:((k:Int) + 2).toNat=k + 2:=by omega
      have q8:(k:Int) + 2 < s.size:=by omega
      go_wp2_with (go_at_call 236; refine (zcJ s k (by omega) (by unfold maxLen; omega) _).mono ?_; rintro e w' ⟨rfl,rfl⟩)
      go_quiet ((go_at_call 237; exact zc8 (zhO _ (by assumption) _)))
      clear he
      go_wp2_with fail
      rw [HV.out]
      refine (zgZ _ l (zcl (s.data.toList.drop k)) true w.heap.size g also _ (by exact hrow) (by omega) (by exact hB) (by exact hcw)).mono ?_
      rintro en w2 ⟨v2,rfl,hr2,hb2⟩
      have hq2:Qb w w2:=Below.trans (hq.drewN _) hb2
      have hl2:=zmU (also:=also.data.toList) (l:=l) (x:=zcl (s.data.toList.drop k)) (e:=true)
      by_cases h0:((zb8 also.data.toList) l (zcl (s.data.toList.drop k)) true).1=0
      ·have hr3:=hr2 h0
       have HE:=Lib.hid (zgI (zb8 also.data.toList) s k l hlt HC.out HE0.out h0)
       clear hr2
       generalize hout:((zb8 also.data.toList) l (zcl (s.data.toList.drop k)) true).2=l2 at *
       have HO:=Lib.hid hout
       clear hout
       go_wp2_with fail
       go_roundw
       case rel => exact ⟨k + 1,k + 3,l2,by omega,by omega,by omega,by go_num,by go_num,hr3,by omega,Lib.hid (HR.out.trans HE.out),hq2⟩
       case measure => simp [intOf]; omega
      ·have HE:=Lib.hid (zgH (zb8 also.data.toList) s k l hlt HC.out HE0.out h0)
       have h1:((((zb8 also.data.toList) l (zcl (s.data.toList.drop k)) true).1) != 0)=true:=bne_iff_ne.2 h0
       clear h0 hr2
       go_wp2_with fail
       go_ret2
       exact ⟨by rw [HR.out,HE.out]; rfl,hq2⟩
    ·have h37:((s[k].toNat:Int) == 37)=false:=by
      rw [beq_eq_false_iff_ne]
      intro e
      exact hc (UInt8.toNat_inj.1 (show s[k].toNat=37 from by omega))
     have HC:=Lib.hid hc
     clear hc
     all_goals
      go_wp2_with fail
      refine (zgZ _ l (s[k]) false w.heap.size g also _ (by exact hrow) (by omega) (by exact hB) (by exact hcw)).mono ?_
      rintro en w2 ⟨v2,rfl,hr2,hb2⟩
      have hq2:Qb w w2:=Below.trans hq hb2
      have hl2:=zmU (also:=also.data.toList) (l:=l) (x:=s[k]) (e:=false)
      by_cases h0:((zb8 also.data.toList) l (s[k]) false).1=0
      ·have hr3:=hr2 h0
       have HE:=Lib.hid (zim (zb8 also.data.toList) s k l hlt HC.out h0)
       clear hr2
       generalize hout:((zb8 also.data.toList) l (s[k]) false).2=l2 at *
       have HO:=Lib.hid hout
       clear hout
       go_wp2_with fail
       go_roundw
       case rel => exact ⟨k + 1,k + 1,l2,by omega,by omega,by omega,by go_num,by go_num,hr3,by omega,Lib.hid (HR.out.trans HE.out),hq2⟩
       case measure => simp [intOf]; omega
      ·have HE:=Lib.hid (zeU (zb8 also.data.toList) s k l hlt HC.out h0)
       have h1:((((zb8 also.data.toList) l (s[k]) false).1) != 0)=true:=bne_iff_ne.2 h0
       clear h0 hr2
       go_wp2_with fail
       go_ret2
       exact ⟨by rw [HR.out,HE.out]; rfl,hq2⟩
  ·have HE:=Lib.hid (zio (zb8 also.data.toList) s k l (j - k) hlt)
   have hst:=zeV hrow
   go_wp2_with fail
   go_ret2
   exact ⟨by rw [HR.out,HE.out]; rfl,hq⟩
end Go.Proofs.YtljbdpihiboeaaaGreatDoor
namespace Go.Proofs.YtljbdpihiboeaaaGreatDoor
open Go.RowKit
theorem zfh (s:ByteArray) (f:Value) (w:World) (hs:¬ s.size ≤ 16384) :
  Calls Tryz.prog 203 #[.string s,f] w fun e w' => e=.returned (zcX (5,[])) ∧ w=w':=by
 go_enter Tryz.func203,Tryz.ntmps203
 go_wp2_with fail
 go_ret2
 exact ⟨rfl,rfl⟩
theorem zgV (s:ByteArray) (w:World) :
  Calls Tryz.prog 195 #[.string s] w fun e w' => e=.returned (zcX (zaO s.data.toList)) ∧ Qb w w':=by
 have hmf:∀ (fn:Fn) (first cap:Array Value) (w:World),(Instr.makeFunc fn first cap).run Tryz.prog w=.ok (.func fn first cap) w:=fun _ _ _ _ => rfl
 by_cases hs:s.size ≤ 16384
 ·have hd:zaO s.data.toList=rwS zcd 0 s.data.toList []:=by unfold zaO ze6; rw [if_neg (by rw [zaa]; omega)]
  rw [hd]
  go_enter Tryz.func195,Tryz.ntmps195
  go_wp2_with fail
  refine (zjq s _ hs).mono ?_
  rintro e w1 ⟨rfl,hq1⟩
  unfold zcX
  go_wp2_with fail
  go_ret2
  exact ⟨rfl,hq1⟩
 ·have hd:zaO s.data.toList=(5,[]):=by unfold zaO ze6; rw [if_pos (by rw [zaa]; omega)]
  rw [hd]
  go_enter Tryz.func195,Tryz.ntmps195
  go_wp2_with fail
  refine (zfh s _ _ hs).mono ?_
  rintro e w1 ⟨rfl,rfl⟩
  unfold zcX
  go_wp2_with fail
  go_ret2
  exact ⟨rfl,Qb.refl _⟩
theorem zdM (s a:ByteArray) (w:World) :
  Calls Tryz.prog 182 #[.string s,.string a] w fun e w' => e=.returned (zcX (zai s.data.toList a.data.toList)) ∧ Qb w w':=by
 have hmf:∀ (fn:Fn) (first cap:Array Value) (w:World),(Instr.makeFunc fn first cap).run Tryz.prog w=.ok (.func fn first cap) w:=fun _ _ _ _ => rfl
 by_cases hs:s.size ≤ 16384
 ·have hd:zai s.data.toList a.data.toList=rwS (zb8 a.data.toList) 0 s.data.toList []:=by unfold zai ze6; rw [if_neg (by rw [zaa]; omega)]
  rw [hd]
  go_enter Tryz.func182,Tryz.ntmps182
  go_wp2_with fail
  refine (zjp s w.heap.size a _ hs (by simp) (by rw [World.cell?_alloc_at _ _ _ _ rfl]; rfl)).mono ?_
  rintro e w1 ⟨rfl,hq1⟩
  unfold zcX
  go_wp2_with fail
  go_ret2
  exact ⟨rfl,((Qb.refl w).alloc _).trans hq1⟩
 ·have hd:zai s.data.toList a.data.toList=(5,[]):=by unfold zai ze6; rw [if_pos (by rw [zaa]; omega)]
  rw [hd]
  go_enter Tryz.func182,Tryz.ntmps182
  go_wp2_with fail
  refine (zfh s _ _ hs).mono ?_
  rintro e w1 ⟨rfl,rfl⟩
  unfold zcX
  go_wp2_with fail
  go_ret2
  exact ⟨rfl,(Qb.refl w).alloc _⟩
theorem zj6 (s keep:ByteArray) (k:Nat) (h:k < s.size):zbU (s.data.toList.take (k + 1)) keep.data.toList=zbU (s.data.toList.take k) keep.data.toList ++ (if zaQ s[k] keep.data.toList=true then [s[k]] else zc3 s[k]):=by
 rw [zcp s k h]; simp [zbU]
theorem zeE (c:UInt8):(zc3 c).length=3:=rfl
theorem zcK (l keep:List UInt8):(zbU l keep).length ≤ 3 * l.length:=by
 unfold zbU
 induction l with
 | nil => simp
 | cons c l ih =>
  rw [List.flatMap_cons,List.length_append,List.length_cons]
  split <;> simp only [zeE,List.length_cons,List.length_nil] <;> omega
theorem zgT (s keep:ByteArray) (w:World) (hs:s.size ≤ 300000000) :
  Calls Tryz.prog 46 #[.string s,.string keep] w fun e w' => e=.returned (.string (S (zbU s.data.toList keep.data.toList))) ∧ Qb w w':=by
 have hmk:=fun W => zfn s.size (by omega) W
 go_enter Tryz.func46,Tryz.ntmps46
 go_wp2_with fail
 clear hmk
 go_loopw [5,6,12] (fun v _ i wr => ∃ k:Nat,∃ l,k ≤ s.size ∧ i=.int .i64 k ∧ zcg wr w.heap.size v l ∧ l.length ≤ 3 * k ∧ Hid (l=zbU (s.data.toList.take k) keep.data.toList) ∧ Qb w wr) (fun _ _ i _ => s.size - (intOf i).toNat)
 case atStart => exact ⟨0,[],Nat.zero_le _,rfl,zet w _ 0 _ (Nat.le_refl _) (Nat.zero_le _) (by omega),Nat.zero_le _,Lib.hid rfl,(Qb.refl w).alloc _⟩
 case round =>
  obtain ⟨k,l,hk,rfl,hrow,hlen,HL,hq⟩:=hrel
  have hB:w.heap.size ≤ wr.heap.size:=hq.size
  by_cases hlt:k < s.size
  ·have HS:=Lib.hid (zj6 s keep k hlt)
   rcases hp:zaQ s[k] keep.data.toList with _ | _
   ·go_wp2_with (first | (go_at_call 85; refine (zcG _ _ _).mono ?_; rintro e w' ⟨rfl,rfl⟩) | (go_at_call 86; refine (zeb _ l s[k] w.heap.size _ hrow (by omega) hB).mono ?_; rintro e w1 ⟨v1,rfl,hr1,hb1⟩))
    go_roundw
    case rel => exact ⟨k + 1,_,by omega,by go_num,hr1,by simp [zc3]; omega,Lib.hid (by rw [HS.out,HL.out,hp]; rfl),Below.trans hq hb1⟩
    case measure => simp [intOf]; omega
   ·go_wp2_with (first | (go_at_call 85; refine (zcG _ _ _).mono ?_; rintro e w' ⟨rfl,rfl⟩) | (at_builtin; refine zaN rfl (.tmp 20) (.tmp 24) rfl w.heap.size _ l [s[k]] rfl (hrow.alloc _) _ _ _ rfl rfl (ziC _ _) (by simp; omega) (by simp; omega) ?_; intro v1 w1 hr1 hb1))
    go_roundw
    case rel => exact ⟨k + 1,_,by omega,by go_num,hr1,by simp; omega,Lib.hid (by rw [HS.out,HL.out,hp]; rfl),Below.trans (hq.alloc _) hb1⟩
    case measure => simp [intOf]; omega
  ·have HE:=Lib.hid (zbL s k hlt)
   have hst:=zeV hrow
   go_wp2_with fail
   go_ret
   exact ⟨zfi (by rw [HL.out,HE.out]),hq⟩
theorem zbF (add:zhy):∀ (n:Nat) (l out:List UInt8),rwS add n l out=rwS add 0 (l.drop n) out
 | 0,l,out => rfl
 | n + 1,[],out => by rw [List.drop_nil,rwS,rwS]
 | n + 1,_ :: l,out => by rw [rwS,List.drop_succ_cons]; exact zbF add n l out
theorem zob (add:zhy) (s:ByteArray) (k j:Nat) (h:k ≤ j) (out:List UInt8):rwS add (j - k) (s.data.toList.drop k) out=rwS add 0 (s.data.toList.drop j) out:=by
 rw [zbF,List.drop_drop,show k + (j - k)=j from by omega]
theorem zcD (s:ByteArray) (w:World) :
  Calls Tryz.prog 112 #[.string s] w fun e w' => e=.returned (zcX (zaO s.data.toList)) ∧ Qb w w':=by
 by_cases hs:s.size ≤ 16384
 ·have hd:zaO s.data.toList=rwS zcd 0 s.data.toList []:=by unfold zaO ze6; rw [if_neg (by rw [zaa]; omega)]
  rw [hd]
  go_enter Tryz.func112,Tryz.ntmps112
  go_wp2_with fail
  go_loopw [4,5,6,7,8] (fun v i _ _ _ wr => ∃ k:Nat,∃ l,k ≤ s.size ∧ i=.int .i64 k ∧ zcg wr w.heap.size v l ∧ l.length ≤ k ∧ Hid (rwS zcd 0 s.data.toList []=rwS zcd 0 (s.data.toList.drop k) l) ∧ Qb w wr) (fun _ i _ _ _ _ => s.size - (intOf i).toNat)
  case atStart => exact ⟨0,[],Nat.zero_le _,rfl,zcg.nil _ _,Nat.le_refl _,Lib.hid rfl,Qb.refl w⟩
  case round =>
   obtain ⟨k,l,hk,rfl,hrow,hlen,HR,hq⟩:=hrel
   have hB:w.heap.size ≤ wr.heap.size:=hq.size
   by_cases hlt:k < s.size
   ·by_cases hc:s[k]=37
    ·have h37:((s[k].toNat:Int) == 37)=true:=by rw [hc]; rfl
     have HC:=Lib.hid hc
     clear hc
     rcases he:zbp (s.data.toList.drop k) with _ | _
     ·have HE:=Lib.hid (zip zcd s k l hlt HC.out he)
      go_wp2_with (go_at_call 136; refine (zdg s k hlt (by omega) HC.out _).mono ?_; rintro e w1 ⟨rfl,hq1⟩)
      go_ret2
      exact ⟨by rw [HR.out,HE.out]; rfl,hq.trans hq1⟩
     ·have HE:=Lib.hid (zgI zcd s k l hlt HC.out he rfl)
      have HJ:=Lib.hid (zob zcd s (k + 1) (k + 3) (by omega) (l ++ [znt (s.data.toList.drop k)]))
      have HV:=Lib.hid (ziP he)
      have h2:=zfU s k he
      go_wp2_with (first | (go_at_call 136; refine (zdg s k hlt (by omega) HC.out _).mono ?_; rintro e w0 ⟨rfl,hq1⟩; have hrow0:=hrow.below hq1) | (at_builtin; refine zaN rfl (.tmp 34) (.tmp 36) rfl w.heap.size _ l [znt (s.data.toList.drop k)] rfl (hrow0.alloc _) _ _ _ rfl rfl (ziC _ _) (by simp; omega) (by have:=hq1.size; simp; omega) ?_; intro v1 w1 hr1 hb1))
      go_roundw
      case rel => exact ⟨k + 3,_,by omega,by go_num,hr1,by simp; omega,Lib.hid (by rw [HR.out,HE.out,← HJ.out,HV.out]; rfl),Below.trans ((hq.trans hq1).alloc _) hb1⟩
      case measure => simp [intOf]; omega
    ·have h37:((s[k].toNat:Int) == 37)=false:=by
      rw [beq_eq_false_iff_ne]
      intro e
      exact hc (UInt8.toNat_inj.1 (show s[k].toNat=37 from by omega))
     have HC:=Lib.hid hc
     clear hc
     have HE:=Lib.hid (zim zcd s k l hlt HC.out rfl)
     go_wp2_with (at_builtin; refine zaN rfl (.tmp 34) (.tmp 36) rfl w.heap.size _ l [s[k]] rfl (hrow.alloc _) _ _ _ rfl rfl (ziC _ _) (by simp; omega) (by simp; omega) ?_; intro v1 w1 hr1 hb1)
     go_roundw
     case rel => exact ⟨k + 1,_,by omega,by go_num,hr1,by simp; omega,Lib.hid (by rw [HR.out,HE.out,Nat.sub_self]; rfl),Below.trans (hq.alloc _) hb1⟩
     case measure => simp [intOf]; omega
   ·have HE:=Lib.hid (zio zcd s k l 0 hlt)
    have hst:=zeV hrow
    go_wp2_with fail
    go_ret2
    exact ⟨by rw [HR.out,HE.out]; rfl,hq⟩
 ·have hd:zaO s.data.toList=(5,[]):=by unfold zaO ze6; rw [if_pos (by rw [zaa]; omega)]
  rw [hd]
  go_enter Tryz.func112,Tryz.ntmps112
  go_wp2_with fail
  go_ret2
  exact ⟨rfl,Qb.refl _⟩
end Go.Proofs.YtljbdpihiboeaaaGreatDoor
namespace Go.Proofs.YtljbdpihiboeaaaGreatDoor
open Go.RowKit
theorem ne37 {c:UInt8} (h:c ≠ 37):((c.toNat:Int) == 37)=false:=by
 rw [beq_eq_false_iff_ne]
 intro e
 exact h (UInt8.toNat_inj.1 (show c.toNat=37 from by omega))
theorem one_list (s:ByteArray) (k:Nat) (h:k < s.size):(s.extract k (k + 1)).data.toList=[s[k]]:=by
 rw [Lib.extract_data,zaX s k h,show k + 1 - k=1 from by omega]; rfl
theorem zmK (a b:ByteArray):(a ++ b).data.toList=a.data.toList ++ b.data.toList:=by
 rw [ByteArray.data_append,Array.toList_append]
theorem za5 {c:UInt8} {l:List UInt8} (h:zau c=true):zaQ c l=true:=by unfold zaQ; rw [h]; rfl
theorem zjA {l:List UInt8}:zaQ 37 l=false:=by unfold zaQ; rfl
theorem zgQ {c:UInt8} {l:List UInt8} (h:zau c=false) (hc:c ≠ 37):zaQ c l=zbb c l:=by
 have h1:(c.toNat != 37)=true:=bne_iff_ne.2 (fun e => hc (UInt8.toNat_inj.1 e))
 unfold zaQ
 rw [h,h1]; rfl
theorem u37:zau 37=false:=by decide
theorem zgO (s keep:ByteArray) (w:World) (hs:s.size ≤ 300000000) (ha:keep.size ≤ maxLen) :
  Calls Tryz.prog 49 #[.string s,.string keep] w fun e w' => e=.returned (.string (S (zbU s.data.toList keep.data.toList))) ∧ Qb w w':=by
 go_enter Tryz.func49,Tryz.ntmps49
 go_wp2_with fail
 go_loopw [5,6] (fun v i wr => ∃ k:Nat,∃ o:ByteArray,k ≤ s.size ∧ i=.int .i64 k ∧ v=.string o ∧ o.size ≤ 3 * k ∧ Hid (o.data.toList=zbU (s.data.toList.take k) keep.data.toList) ∧ Qb w wr) (fun _ i _ => s.size - (intOf i).toNat)
 case atStart => exact ⟨0,⟨#[]⟩,Nat.zero_le _,rfl,rfl,Nat.zero_le _,Lib.hid rfl,Qb.refl w⟩
 case round =>
  obtain ⟨k,o,hk,rfl,rfl,hlen,HL,hq⟩:=hrel
  by_cases hlt:k < s.size
  ·have HS:=Lib.hid (zj6 s keep k hlt)
   have hx:=size_extract s k (k + 1) (by omega)
   have hx1:(s.extract k (k + 1)).size ≤ 1:=by omega
   have hx2:(S (zc3 s[k])).size ≤ 3:=by rw [zac]; exact Nat.le_refl _
   clear hx
   have HO:=Lib.hid (one_list s k hlt)
   have hyes:Hid (zaQ s[k] keep.data.toList=true → (o ++ s.extract k (k + 1)).data.toList=zbU (s.data.toList.take (k + 1)) keep.data.toList):=Lib.hid fun hp => by
    rw [zmK,HO.out,HS.out,if_pos hp,HL.out]
   have hno:Hid (zaQ s[k] keep.data.toList=false → (o ++ S (zc3 s[k])).data.toList=zbU (s.data.toList.take (k + 1)) keep.data.toList):=Lib.hid fun hp => by
    rw [zmK,HS.out,if_neg (by rw [hp]; exact Bool.false_ne_true),HL.out]
   have hsz:(o ++ s.extract k (k + 1)).size ≤ 3 * (k + 1):=by rw [ByteArray.size_append]; omega
   have hsz2:(o ++ S (zc3 s[k])).size ≤ 3 * (k + 1):=by rw [ByteArray.size_append]; omega
   have Hz:=Lib.hid (And.intro hsz hsz2)
   clear hsz hsz2
   rcases hu:zau s[k] with _ | _
   ·by_cases hc:s[k]=37
    ·have h37:((s[k].toNat:Int) != 37)=false:=by rw [hc]; rfl
     have HP:Hid (zaQ s[k] keep.data.toList=false):=Lib.hid (by rw [hc]; exact zjA)
     clear hc
     go_wp2_with (first | (go_at_call 91; refine (zaV _ _).mono ?_; rintro e w' ⟨rfl,rfl⟩) | (go_at_call 92; refine (zb3 _ _ _ ha).mono ?_; rintro e w' ⟨rfl,rfl⟩) | (go_at_call 93; refine (zdX _ _).mono ?_; rintro e w1 ⟨rfl,hq1⟩))
     go_roundw
     case rel => exact ⟨k + 1,_,by omega,by go_num,rfl,Hz.out.2,Lib.hid (hno.out HP.out),hq.trans hq1⟩
     case measure => simp [intOf]; omega
    ·have h37:((s[k].toNat:Int) != 37)=true:=by have:=ne37 hc; simpa using this
     have HP:=Lib.hid (zgQ (l:=keep.data.toList) hu hc)
     clear hc
     rcases hi:zbb s[k] keep.data.toList with _ | _
     ·go_wp2_with (first | (go_at_call 91; refine (zaV _ _).mono ?_; rintro e w' ⟨rfl,rfl⟩) | (go_at_call 92; refine (zb3 _ _ _ ha).mono ?_; rintro e w' ⟨rfl,rfl⟩) | (go_at_call 93; refine (zdX _ _).mono ?_; rintro e w1 ⟨rfl,hq1⟩))
      go_roundw
      case rel => exact ⟨k + 1,_,by omega,by go_num,rfl,Hz.out.2,Lib.hid (hno.out (HP.out.trans hi)),hq.trans hq1⟩
      case measure => simp [intOf]; omega
     ·go_wp2_with (first | (go_at_call 91; refine (zaV _ _).mono ?_; rintro e w' ⟨rfl,rfl⟩) | (go_at_call 92; refine (zb3 _ _ _ ha).mono ?_; rintro e w' ⟨rfl,rfl⟩))
      go_roundw
      case rel => exact ⟨k + 1,_,by omega,by go_num,rfl,Hz.out.1,Lib.hid (hyes.out (HP.out.trans hi)),hq⟩
      case measure => simp [intOf]; omega
   ·have HP:=Lib.hid (za5 (l:=keep.data.toList) hu)
    go_wp2_with (first | (go_at_call 91; refine (zaV _ _).mono ?_; rintro e w' ⟨rfl,rfl⟩) | (go_at_call 92; refine (zb3 _ _ _ ha).mono ?_; rintro e w' ⟨rfl,rfl⟩))
    go_roundw
    case rel => exact ⟨k + 1,_,by omega,by go_num,rfl,Hz.out.1,Lib.hid (hyes.out HP.out),hq⟩
    case measure => simp [intOf]; omega
  ·have HE:=Lib.hid (zbL s k hlt)
   go_wp2_with fail
   go_ret
   exact ⟨zeh (S_eq (by rw [HL.out,HE.out])),hq⟩
set_option maxHeartbeats 800000 in
theorem zdJ (s also:ByteArray) (w:World) (ha:also.size ≤ maxLen) :
  Calls Tryz.prog 110 #[.string s,.string also] w fun e w' => e=.returned (zcX (zai s.data.toList also.data.toList)) ∧ Qb w w':=by
 by_cases hs:s.size ≤ 16384
 ·have hd:zai s.data.toList also.data.toList=rwS (zb8 also.data.toList) 0 s.data.toList []:=by unfold zai ze6; rw [if_neg (by rw [zaa]; omega)]
  rw [hd]
  go_enter Tryz.func110,Tryz.ntmps110
  go_wp2_with fail
  go_loopw [6,7,8,9] (fun v i _ _ wr => ∃ k:Nat,∃ l,k ≤ s.size ∧ i=.int .i64 k ∧ zcg wr w.heap.size v l ∧ l.length ≤ 3 * k ∧ Hid (rwS (zb8 also.data.toList) 0 s.data.toList []=rwS (zb8 also.data.toList) 0 (s.data.toList.drop k) l) ∧ Qb w wr) (fun _ i _ _ _ => s.size - (intOf i).toNat)
  case atStart => exact ⟨0,[],Nat.zero_le _,rfl,zcg.nil _ _,Nat.zero_le _,Lib.hid rfl,Qb.refl w⟩
  case round =>
   obtain ⟨k,l,hk,rfl,hrow,hlen,HR,hq⟩:=hrel
   have hB:w.heap.size ≤ wr.heap.size:=hq.size
   by_cases hlt:k < s.size
   ·by_cases hc:s[k]=37
    ·have h37:((s[k].toNat:Int) != 37)=false:=by rw [hc]; rfl
     have HC:=Lib.hid hc
     clear hc
     rcases he:zbp (s.data.toList.drop k) with _ | _
     ·have HE:=Lib.hid (zip (zb8 also.data.toList) s k l hlt HC.out he)
      go_wp2_with (go_at_call 136; refine (zdg s k hlt (by omega) HC.out _).mono ?_; rintro e w0 ⟨rfl,hq1⟩; have hrow0:=hrow.below hq1)
      go_ret2
      exact ⟨by rw [HR.out,HE.out]; rfl,hq.trans hq1⟩
     ·have HV:=Lib.hid (ziP he)
      have HE0:=Lib.hid he
      have h2:=zfU s k he
      rcases hu:zau (znt (s.data.toList.drop k)) with _ | _
      ·have ha1:zb8 also.data.toList l (zcl (s.data.toList.drop k)) true=(0,l ++ zc3 (znt (s.data.toList.drop k))):=by rw [← HV.out]; exact zcL hu
       have HE:=Lib.hid (zgI (zb8 also.data.toList) s k l hlt HC.out he (by rw [ha1]))
       have HJ:=Lib.hid (zob (zb8 also.data.toList) s (k + 1) (k + 3) (by omega) (l ++ zc3 (znt (s.data.toList.drop k))))
       have HA:=Lib.hid ha1
       have hsz:(S (zc3 (znt (s.data.toList.drop k)))).size ≤ 3:=by rw [zac]; exact Nat.le_refl _
       clear ha1
       go_wp2_with (first | (go_at_call 136; refine (zdg s k hlt (by omega) HC.out _).mono ?_; rintro e w0 ⟨rfl,hq1⟩; have hrow0:=hrow.below hq1) | (go_at_call 91; refine (zaV _ _).mono ?_; rintro e w' ⟨rfl,rfl⟩) | (go_at_call 93; refine (zdX _ _).mono ?_; rintro e w3 ⟨rfl,hq3⟩; have hrow3:=hrow0.below hq3) | (at_builtin; refine zfz rfl (.tmp 56) (.tmp 58) rfl w.heap.size _ l rfl hrow3 _ rfl (by omega) (by have:=hq1.size; have:=hq3.size; omega) ?_; intro v1 w1 hr1 hb1))
       go_roundw
       case rel => exact ⟨k + 3,_,by omega,by go_num,hr1,by simp [zc3]; omega,Lib.hid (by rw [HR.out,HE.out,HA.out,← HJ.out]),Below.trans ((hq.trans hq1).trans hq3) hb1⟩
       case measure => simp [intOf]; omega
      ·have ha1:zb8 also.data.toList l (zcl (s.data.toList.drop k)) true=(0,l ++ [znt (s.data.toList.drop k)]):=by
        rw [← HV.out]; exact zaY (by rw [hu]; rfl) (za5 hu)
       have HE:=Lib.hid (zgI (zb8 also.data.toList) s k l hlt HC.out he (by rw [ha1]))
       have HJ:=Lib.hid (zob (zb8 also.data.toList) s (k + 1) (k + 3) (by omega) (l ++ [znt (s.data.toList.drop k)]))
       have HA:=Lib.hid ha1
       clear ha1
       go_wp2_with (first | (go_at_call 136; refine (zdg s k hlt (by omega) HC.out _).mono ?_; rintro e w0 ⟨rfl,hq1⟩; have hrow0:=hrow.below hq1) | (go_at_call 91; refine (zaV _ _).mono ?_; rintro e w' ⟨rfl,rfl⟩) | (at_builtin; refine zaN rfl (.tmp 52) (.tmp 54) rfl w.heap.size _ l [znt (s.data.toList.drop k)] rfl (hrow0.alloc _) _ _ _ rfl rfl (ziC _ _) (by simp; omega) (by have:=hq1.size; simp; omega) ?_; intro v1 w1 hr1 hb1))
       go_roundw
       case rel => exact ⟨k + 3,_,by omega,by go_num,hr1,by simp; omega,Lib.hid (by rw [HR.out,HE.out,HA.out,← HJ.out]),Below.trans ((hq.trans hq1).alloc _) hb1⟩
       case measure => simp [intOf]; omega
    ·have h37:((s[k].toNat:Int) != 37)=true:=by have:=ne37 hc; simpa using this
     have HC:=Lib.hid hc
     clear hc
     rcases hp:zaQ s[k] also.data.toList with _ | _
     ·have hu:zau s[k]=false:=by
       rcases hu:zau s[k] with _ | _
       ·rfl
       ·rw [za5 hu] at hp; cases hp
      have hi:zbb s[k] also.data.toList=false:=by rw [← zgQ hu HC.out]; exact hp
      have ha1:zb8 also.data.toList l s[k] false=(1,[]):=zfx rfl hp
      have HE:=Lib.hid (zeU (zb8 also.data.toList) s k l hlt HC.out (by rw [ha1]; decide))
      have HA:=Lib.hid ha1
      clear ha1 hp
      go_wp2_with (first | (go_at_call 91; refine (zaV _ _).mono ?_; rintro e w' ⟨rfl,rfl⟩) | (go_at_call 92; refine (zb3 _ _ _ ha).mono ?_; rintro e w' ⟨rfl,rfl⟩))
      go_ret2
      exact ⟨by rw [HR.out,HE.out,HA.out]; rfl,hq⟩
     ·have ha1:zb8 also.data.toList l s[k] false=(0,l ++ [s[k]]):=zaY rfl hp
      have HE:=Lib.hid (zim (zb8 also.data.toList) s k l hlt HC.out (by rw [ha1]))
      have HA:=Lib.hid ha1
      clear ha1
      rcases hu:zau s[k] with _ | _
      ·have hi:zbb s[k] also.data.toList=true:=by rw [← zgQ hu HC.out]; exact hp
       clear hp
       go_wp2_with (first | (go_at_call 91; refine (zaV _ _).mono ?_; rintro e w' ⟨rfl,rfl⟩) | (go_at_call 92; refine (zb3 _ _ _ ha).mono ?_; rintro e w' ⟨rfl,rfl⟩) | (at_builtin; refine zaN rfl (.tmp 36) (.tmp 40) rfl w.heap.size _ l [s[k]] rfl (hrow.alloc _) _ _ _ rfl rfl (ziC _ _) (by simp; omega) (by simp; omega) ?_; intro v1 w1 hr1 hb1))
       go_roundw
       case rel => exact ⟨k + 1,_,by omega,by go_num,hr1,by simp; omega,Lib.hid (by rw [HR.out,HE.out,HA.out,Nat.sub_self]),Below.trans (hq.alloc _) hb1⟩
       case measure => simp [intOf]; omega
      ·clear hp
       go_wp2_with (first | (go_at_call 91; refine (zaV _ _).mono ?_; rintro e w' ⟨rfl,rfl⟩) | (go_at_call 92; refine (zb3 _ _ _ ha).mono ?_; rintro e w' ⟨rfl,rfl⟩) | (at_builtin; refine zaN rfl (.tmp 36) (.tmp 40) rfl w.heap.size _ l [s[k]] rfl (hrow.alloc _) _ _ _ rfl rfl (ziC _ _) (by simp; omega) (by simp; omega) ?_; intro v1 w1 hr1 hb1))
       go_roundw
       case rel => exact ⟨k + 1,_,by omega,by go_num,hr1,by simp; omega,Lib.hid (by rw [HR.out,HE.out,HA.out,Nat.sub_self]),Below.trans (hq.alloc _) hb1⟩
       case measure => simp [intOf]; omega
   ·have HE:=Lib.hid (zio (zb8 also.data.toList) s k l 0 hlt)
    have hst:=zeV hrow
    go_wp2_with fail
    go_ret2
    exact ⟨by rw [HR.out,HE.out]; rfl,hq⟩
 ·have hd:zai s.data.toList also.data.toList=(5,[]):=by unfold zai ze6; rw [if_pos (by rw [zaa]; omega)]
  rw [hd]
  go_enter Tryz.func110,Tryz.ntmps110
  go_wp2_with fail
  go_ret2
  exact ⟨rfl,Qb.refl _⟩
end Go.Proofs.YtljbdpihiboeaaaGreatDoor
namespace Go.Proofs.YtljbdpihiboeaaaGreatDoor
open Go.RowKit
theorem zhZ:∀ n:Fin 16,zbj (zdn n.val)=true ∧ hvN (zdn n.val)=n.val ∧ zdn n.val ≠ 37:=by decide
theorem zkY (c:UInt8) (r:List UInt8):zbp (zc3 c ++ r)=true ∧ zcl (zc3 c ++ r)=c:=by
 have hc:=c.toNat_lt
 have h1:=zhZ ⟨c.toNat / 16,by omega⟩
 have h2:=zhZ ⟨c.toNat % 16,by omega⟩
 simp only at h1 h2
 constructor
 ·show (zbj (zdn (c.toNat / 16)) && zbj (zdn (c.toNat % 16)))=true
  rw [h1.1,h2.1]; rfl
 ·show UInt8.ofNat (16 * hvN (zdn (c.toNat / 16)) + hvN (zdn (c.toNat % 16)))=c
  rw [h1.2.1,h2.2.1,show 16 * (c.toNat / 16) + c.toNat % 16=c.toNat from by omega]
  exact UInt8.ofNat_toNat
theorem zff (add:zhy) (c:UInt8) (r out:List UInt8) (o2:List UInt8) (h:add out c true=(0,o2)):rwS add 0 (zc3 c ++ r) out=rwS add 0 r o2:=by
 have h1:=zkY c r
 show rwS add 0 (37 :: ([zdn (c.toNat / 16),zdn (c.toNat % 16)] ++ r)) out=_
 have e:(37 :: ([zdn (c.toNat / 16),zdn (c.toNat % 16)] ++ r):List UInt8)=zc3 c ++ r:=rfl
 rw [rwS,if_pos rfl,e,if_pos h1.1,h1.2,h,if_pos rfl,zbF]
 rfl
theorem zdG (add:zhy) (c:UInt8) (r out:List UInt8) (o2:List UInt8) (hc:c ≠ 37) (h:add out c false=(0,o2)):rwS add 0 ([c] ++ r) out=rwS add 0 r o2:=by
 show rwS add 0 (c :: r) out=_
 rw [rwS,if_neg hc,h,if_pos rfl]
theorem zjz {c:UInt8} {k:List UInt8} (h:zaQ c k=true):c ≠ 37:=by
 rintro rfl
 rw [zjA] at h; cases h
theorem zkA (add:zhy) (f:UInt8 → List UInt8) (keep:List UInt8) (h1:∀ out c,zaQ c keep=true → add out c false=(0,out ++ f c)) (h2:∀ out c,zaQ c keep=false → add out c true=(0,out ++ f c)) :
  ∀ (l r out:List UInt8),rwS add 0 (zbU l keep ++ r) out=rwS add 0 r (out ++ l.flatMap f)
 | [],r,out => by simp [zbU]
 | c :: l,r,out => by
  have e:zbU (c :: l) keep=(if zaQ c keep=true then [c] else zc3 c) ++ zbU l keep:=rfl
  rw [e,List.append_assoc,List.flatMap_cons]
  rcases hp:zaQ c keep with _ | _
  ·rw [if_neg Bool.false_ne_true,zff add c _ out _ (h2 out c hp),zkA add f keep h1 h2 l r _,List.append_assoc]
  ·rw [if_pos rfl,zdG add c _ out _ (zjz hp) (h1 out c hp),zkA add f keep h1 h2 l r _,List.append_assoc]
theorem zkU (l:List UInt8):l.flatMap (fun c => [c])=l:=by simp
theorem dec_enc (l keep:List UInt8) (hl:l.length ≤ 1000):zaO (zbU l keep)=(0,l):=by
 have hlen:=zcK l keep
 unfold zaO ze6
 rw [if_neg (by omega),← List.append_nil (zbU l keep),zkA zcd (fun c => [c]) keep (fun _ _ _ => rfl) (fun _ _ _ => rfl),zkU]
 rfl
theorem zcE (c:UInt8):zaQ c []=zau c:=by unfold zaQ; rw [zmd,Bool.and_false,Bool.or_false]
def Canon (also l y a:List UInt8):Prop :=
 (∀ o r,rwS (zb8 also) 0 (y ++ r) o=rwS (zb8 also) 0 r (o ++ y)) ∧ (∀ o,rwS zcd 0 l o=(0,o ++ a)) ∧ (∀ o r,rwS zcd 0 (y ++ r) o=rwS zcd 0 r (o ++ a)) ∧ y.length ≤ l.length
theorem zbI {c:UInt8} {t:List UInt8} (h:zbp (c :: t)=true):∃ a b r,t=a :: b :: r:=by
 match t,h with
 | a :: b :: r,_ => exact ⟨a,b,r,rfl⟩
theorem zhX {x:UInt8} (h:zau x=true):x ≠ 37:=by
 rintro rfl
 rw [u37] at h; cases h
theorem zjC (also:List UInt8):∀ (n:Nat) (l out x:List UInt8),l.length ≤ n → rwS (zb8 also) 0 l out=(0,x) → ∃ y a,x=out ++ y ∧ Canon also l y a:=by
 intro n
 induction n with
 | zero =>
  intro l out x hl h
  have:l=[]:=List.eq_nil_of_length_eq_zero (by omega)
  subst this
  rw [rwS] at h
  obtain rfl:out=x:=by injection h
  exact ⟨[],[],by simp,by simp,by intro o; rw [rwS,List.append_nil],by simp,Nat.le_refl _⟩
 | succ n ih =>
  intro l out x hl h
  cases l with
  | nil =>
   rw [rwS] at h
   obtain rfl:out=x:=by injection h
   exact ⟨[],[],by simp,by simp,by intro o; rw [rwS,List.append_nil],by simp,Nat.le_refl _⟩
  | cons c t =>
   by_cases hc:c=37
   ·rcases he:zbp (c :: t) with _ | _
    ·rw [rwS,if_pos hc,if_neg (by rw [he]; exact Bool.false_ne_true)] at h
     injection h with h1 _
     exact absurd h1 (by decide)
    ·obtain ⟨a,b,r,rfl⟩:=zbI he
     have hd:∀ o,rwS zcd 0 (c :: a :: b :: r) o=rwS zcd 0 r (o ++ [zcl (c :: a :: b :: r)]):=by
      intro o
      rw [rwS,if_pos hc,if_pos he]
      show (if (0:Int)=0 then rwS zcd 2 (a :: b :: r) _ else _)=_
      rw [if_pos rfl,zbF]
      rfl
     rcases hu:zau (zcl (c :: a :: b :: r)) with _ | _
     ·rw [rwS,if_pos hc,if_pos he,zcL hu,if_pos rfl,zbF] at h
      obtain ⟨y,m,rfl,h1,h2,h3,h4⟩:=ih r _ x (by simp at hl ⊢; omega) h
      refine ⟨zc3 (zcl (c :: a :: b :: r)) ++ y,zcl (c :: a :: b :: r) :: m,by simp,?_,?_,?_,?_⟩
      ·intro o r'
       rw [List.append_assoc,zff _ _ _ _ _ (zcL hu),h1,List.append_assoc]
      ·intro o
       rw [hd,h2,List.append_assoc]; rfl
      ·intro o r'
       rw [List.append_assoc,zff zcd _ _ _ _ rfl,h3,List.append_assoc]; rfl
      ·rw [List.length_append,zeE]; simp; omega
     ·rw [rwS,if_pos hc,if_pos he,zaY (by rw [hu]; rfl) (za5 hu),if_pos rfl,zbF] at h
      obtain ⟨y,m,rfl,h1,h2,h3,h4⟩:=ih r _ x (by simp at hl ⊢; omega) h
      refine ⟨[zcl (c :: a :: b :: r)] ++ y,zcl (c :: a :: b :: r) :: m,by simp,?_,?_,?_,?_⟩
      ·intro o r'
       rw [List.append_assoc,zdG _ _ _ _ _ (zhX hu) (zaY rfl (za5 hu)),h1,List.append_assoc]
      ·intro o
       rw [hd,h2,List.append_assoc]; rfl
      ·intro o r'
       rw [List.append_assoc,zdG zcd _ _ _ _ (zhX hu) rfl,h3,List.append_assoc]; rfl
      ·simp; omega
   ·rcases hp:zaQ c also with _ | _
    ·rw [rwS,if_neg hc,zfx rfl hp,if_neg (by decide)] at h
     injection h with h1 _
     exact absurd h1 (by decide)
    ·rw [rwS,if_neg hc,zaY rfl hp,if_pos rfl] at h
     obtain ⟨y,m,rfl,h1,h2,h3,h4⟩:=ih t _ x (by simp at hl; omega) h
     refine ⟨[c] ++ y,c :: m,by simp,?_,?_,?_,?_⟩
     ·intro o r'
      rw [List.append_assoc,zdG _ _ _ _ _ hc (zaY rfl hp),h1,List.append_assoc]
     ·intro o
      rw [rwS,if_neg hc]
      show (if (0:Int)=0 then rwS zcd 0 t _ else _)=_
      rw [if_pos rfl,h2]
      show (0,(o ++ [c]) ++ m)=_
      rw [List.append_assoc]; rfl
     ·intro o r'
      rw [List.append_assoc,zdG zcd _ _ _ _ hc rfl,h3,List.append_assoc]; rfl
     ·simp; omega
theorem zbH (l also x:List UInt8) (h:zai l also=(0,x)):zai x also=(0,x) ∧ (∃ a,zaO l=(0,a) ∧ zaO x=(0,a)) ∧ x.length ≤ l.length:=by
 unfold zai ze6 at h
 by_cases hlen:16384 < l.length
 ·rw [if_pos hlen] at h
  injection h with h1 _
  exact absurd h1 (by decide)
 ·rw [if_neg hlen] at h
  obtain ⟨y,a,rfl,h1,h2,h3,h4⟩:=zjC also l.length l [] x (Nat.le_refl _) h
  have e1:=h1 [] []
  have e3:=h3 [] []
  rw [List.append_nil,rwS,List.nil_append] at e1 e3
  refine ⟨?_,⟨a,?_,?_⟩,h4⟩
  ·unfold zai ze6; rw [if_neg (by omega),e1]
  ·unfold zaO ze6; rw [if_neg hlen,h2]; rfl
  ·unfold zaO ze6; rw [if_neg (by omega),e3]
theorem zde (add:zhy):∀ (l out:List UInt8) (n:Nat),(rwS add n l out).1 ≠ 0 → (rwS add n l out).2=[]
 | [],out,n => by intro h; cases n <;> (rw [rwS] at h; exact absurd rfl h)
 | c :: l,out,n + 1 => by intro h; rw [rwS] at h ⊢; exact zde add l out n h
 | c :: l,out,0 => by
  intro h
  rw [rwS] at h ⊢
  split at h
  ·rename_i hc
   rw [if_pos hc]
   split at h
   ·rename_i he
    rw [if_pos he]
    split at h
    ·rename_i ha
     rw [if_pos ha]; exact zde add l _ 2 h
    ·rename_i ha
     rw [if_neg ha]
   ·rename_i he
    rw [if_neg he]
  ·rename_i hc
   rw [if_neg hc]
   split at h
   ·rename_i ha
    rw [if_pos ha]; exact zde add l _ 0 h
   ·rename_i ha
    rw [if_neg ha]
theorem zjD (l also:List UInt8) (h:(zai l also).1 ≠ 0):(zai l also).2=[]:=by
 unfold zai ze6 at h ⊢
 split
 ·rfl
 ·rename_i hl
  rw [if_neg hl] at h
  exact zde _ _ _ _ h
end Go.Proofs.YtljbdpihiboeaaaGreatDoor
namespace Go.Proofs.YtljbdpihiboeaaaGreatDoor
def okB (also:List UInt8) (c:UInt8):Bool:=c == 37 || zbj c || zaQ c also
theorem zgY (also:List UInt8):∀ (n:Nat) (l out x:List UInt8),l.length ≤ n → rwS (zb8 also) 0 l out=(0,x) → l.all (okB also)=true:=by
 intro n
 induction n with
 | zero =>
  intro l out x hl h
  have:l=[]:=List.eq_nil_of_length_eq_zero (by omega)
  subst this; rfl
 | succ n ih =>
  intro l out x hl h
  cases l with
  | nil => rfl
  | cons c t =>
   by_cases hc:c=37
   ·rcases he:zbp (c :: t) with _ | _
    ·rw [rwS,if_pos hc,if_neg (by rw [he]; exact Bool.false_ne_true)] at h
     injection h with h1 _
     exact absurd h1 (by decide)
    ·obtain ⟨a,b,r,rfl⟩:=zbI he
     have hab:zbj a=true ∧ zbj b=true:=by
      have:(zbj a && zbj b)=true:=he
      simpa using this
     have hr:∃ o2,rwS (zb8 also) 0 r o2=(0,x):=by
      rcases hu:zau (zcl (c :: a :: b :: r)) with _ | _
      ·rw [rwS,if_pos hc,if_pos he,zcL hu,if_pos rfl,zbF] at h; exact ⟨_,h⟩
      ·rw [rwS,if_pos hc,if_pos he,zaY (by rw [hu]; rfl) (za5 hu),if_pos rfl,zbF] at h; exact ⟨_,h⟩
     obtain ⟨o2,hr⟩:=hr
     have:=ih r o2 x (by simp at hl ⊢; omega) hr
     simp [okB,hc,hab.1,hab.2,this]
   ·rcases hp:zaQ c also with _ | _
    ·rw [rwS,if_neg hc,zfx rfl hp,if_neg (by decide)] at h
     injection h with h1 _
     exact absurd h1 (by decide)
    ·rw [rwS,if_neg hc,zaY rfl hp,if_pos rfl] at h
     have:=ih t _ x (by simp at hl; omega) h
     simp [okB,hp,this]
theorem zhR {l also x:List UInt8} (h:zai l also=(0,x)):l.all (okB also)=true:=by
 unfold zai ze6 at h
 split at h
 ·injection h with h1 _
  exact absurd h1 (by decide)
 ·exact zgY also l.length l [] x (Nat.le_refl _) h
theorem zeA {l also x:List UInt8} (h:zai l also=(0,x)):l.length ≤ 16384:=by
 unfold zai ze6 at h
 split at h
 ·injection h with h1 _
  exact absurd h1 (by decide)
 ·omega
theorem zcI {l also x:List UInt8} (h:zai l also=(0,x)):x.all (okB also)=true:=zhR (zbH l also x h).1
theorem zaP (c:UInt8):∀ (a b:List UInt8),c ∉ a → zaq c (a ++ c :: b)=(a,b,true)
 | [],b,_ => by simp [zaq]
 | x :: a,b,h => by
  simp only [List.mem_cons,not_or] at h
  rw [List.cons_append,zcx,if_neg (fun e => h.1 e.symm),zaP c a b h.2]
theorem zbZ (c:UInt8):∀ (a:List UInt8),c ∉ a → zaq c a=(a,[],false)
 | [],_ => rfl
 | x :: a,h => by
  simp only [List.mem_cons,not_or] at h
  rw [zcx,if_neg (fun e => h.1 e.symm),zbZ c a h.2]
end Go.Proofs.YtljbdpihiboeaaaGreatDoor
namespace Go.Proofs.YtljbdpihiboeaaaGreatDoor
open Nat renaming reduceAdd → z6, reduceSub → z7, reduceLeDiff → z8, reduceLT → j3, reduceMul → j6, reduceEqDiff → j7
open Int renaming reduceToNat → j8, reduceAdd → j9, reduceSub → x0, reduceMul → x5, reduceNeg → x6, reduceLT → x7, reduceLE → x8, reduceEq → x9, reduceNe → y3
open Go.RowKit Sx
def zdS (h:List UInt8) (p:Int):AV:=.agg [.s h,.i .i64 p]
def ziK (h:List UInt8) (p:Int):List UInt8:=if p=0 then h else h ++ [58] ++ Lib.itoa p
theorem ziJ (h:List UInt8) (p:Int) (h0:-9223372036854775808 ≤ p) (h1:p ≤ 9223372036854775807):(ziK h p).length ≤ h.length + 22:=by
 have:=Lib.itoa_length_le p h0 h1
 unfold ziK
 split
 ·omega
 ·simp only [List.length_append,List.length_cons,List.length_nil]; omega
theorem hasB_idx (l:List UInt8) (c:UInt8):((zaz l [c]:Nat):Int) < l.length ↔ (zaq c l).2.2=true:=by
 have h:=zer c l
 constructor
 ·intro h1; rw [h.1 (by omega)]
 ·intro h1
  apply Classical.byContradiction
  intro h2
  rw [h.2 (by omega)] at h1; cases h1
theorem zlJ (l:List UInt8):(zcZ l).2 ≤ 65535:=by
 unfold zcZ
 split
 ·exact zeR 65535 l
 ·exact Nat.zero_le _
theorem hpE_port (l:List UInt8):(hpE l).2.2 ≤ 65535:=by
 have:=zlJ (zaq 58 l).2.1
 unfold hpE
 repeat' split
 all_goals simp only [Nat.zero_le]
 all_goals omega
section
variable [Tabs Tryz.prog] {objs:List OB} {K:List OB → AV → Prop}
theorem zlB (s:List UInt8) (hs:s.length ≤ 1000000) (hk:K objs (.tup [.s (zaK s).2,.i .i64 (zaK s).1])):zad Tryz.prog 111 [.s s] objs K :=
 conv (vs:=[.string (S s)]) rfl rfl (fun w => zdL (S s) w (by rw [zac]; exact hs)) hk
theorem rhPort_k (s:List UInt8) (hs:s.length ≤ maxLen) (hk:K objs (.tup [.i .i64 (zcZ s).2,.i .i64 (zcZ s).1])):zad Tryz.prog 173 [.s s] objs K :=
 zqs (vs:=[.string (S s)]) rfl rfl (fun w => zoE (S s) w (by rw [zac]; exact hs)) hk
theorem zme (s:List UInt8) (hs:s.length ≤ maxLen) (hk:K objs (.tup [zdS (hpE s).2.1 (hpE s).2.2,.i .i64 (hpE s).1])):zad Tryz.prog 196 [.s s] objs K :=
 conv (vs:=[.string (S s)]) rfl rfl (fun w => zqH (S s) w (by rw [zac]; exact hs)) hk
theorem zgS (s also:List UInt8) (hk:K objs (.tup [.s (zai s also).2,.i .i64 (zai s also).1])):zad Tryz.prog 182 [.s s,.s also] objs K :=
 conv (vs:=[.string (S s),.string (S also)]) rfl rfl (fun w => zdM (S s) (S also) w) hk
theorem zir (s also:List UInt8) (ha:also.length ≤ maxLen) (hk:K objs (.tup [.s (zai s also).2,.i .i64 (zai s also).1])):zad Tryz.prog 110 [.s s,.s also] objs K :=
 conv (vs:=[.string (S s),.string (S also)]) rfl rfl (fun w => zdJ (S s) (S also) w (by rw [zac]; exact ha)) hk
theorem zgU (s:List UInt8) (hk:K objs (.tup [.s (zaO s).2,.i .i64 (zaO s).1])):zad Tryz.prog 195 [.s s] objs K :=
 conv (vs:=[.string (S s)]) rfl rfl (fun w => zgV (S s) w) hk
theorem zc7 (s:List UInt8) (hk:K objs (.tup [.s (zaO s).2,.i .i64 (zaO s).1])):zad Tryz.prog 112 [.s s] objs K :=
 conv (vs:=[.string (S s)]) rfl rfl (fun w => zcD (S s) w) hk
theorem zjB (s keep:List UInt8) (hs:s.length ≤ 300000000) (hk:K objs (.s (zbU s keep))):zad Tryz.prog 46 [.s s,.s keep] objs K :=
 conv (vs:=[.string (S s),.string (S keep)]) rfl rfl (fun w => zgT (S s) (S keep) w (by rw [zac]; exact hs)) hk
theorem zhH (s keep:List UInt8) (hs:s.length ≤ 300000000) (ha:keep.length ≤ maxLen) (hk:K objs (.s (zbU s keep))):zad Tryz.prog 49 [.s s,.s keep] objs K :=
 conv (vs:=[.string (S s),.string (S keep)]) rfl rfl (fun w => zgO (S s) (S keep) w (by rw [zac]; exact hs) (by rw [zac]; exact ha)) hk
theorem zpQ [Pow Tryz.prog] (h:List UInt8) (p:Int) (hh:h.length ≤ 200000000000000) (h0:-9223372036854775808 ≤ p) (h1:p ≤ 9223372036854775807) (hk:K objs (.s (ziK h p))):zad Tryz.prog 87 [zdS h p] objs K:=by
 refine za1 is_host_Format rfl fun C _ => ?_
 have hl:=Lib.itoa_length_le p h0 h1
 unfold ziK at hk
 by_cases hp:p=0
 ·rw [if_pos hp] at hk
  simp only [zdS,hp,c_host_Format,sxZ,z6,z7,z8,j3,j6,j7,j8,j9,x0,x5,x6,x7,x8,x9,y3,reduceCtorEq,↓reduceIte]
  exact hk
 ·rw [if_neg hp] at hk
  simp only [zdS,hp,c_host_Format,sxZ,z6,z7,z8,j3,j6,j7,j8,j9,x0,x5,x6,x7,x8,x9,y3,reduceCtorEq,↓reduceIte]
  refine ⟨by omega,?_⟩
  refine zb6 (itoa_k p h0 h1 ⟨rfl,rfl⟩) ?_
  simp only [sxZ,z6,z7,z8,j3,j6,j7,j8,j9,x0,x5,x6,x7,x8,x9,y3,reduceCtorEq,↓reduceIte]
  exact ⟨by omega,hk⟩
theorem zgK (p:Int) (h0:-9223372036854775808 ≤ p) (h1:p ≤ 9223372036854775807) (hk:K objs (.s (Lib.itoa p))):zad Tryz.prog 108 [.i .i64 p] objs K:=by
 refine za1 is_ref05_Decimal rfl fun C _ => ?_
 unfold Lib.itoa at hk
 by_cases hp:p < 0
 ·rw [if_pos hp] at hk
  have e1:IntKind.u64.wrap (IntKind.u64.wrap (0 - (p + 1)) + 1)=((p.natAbs:Nat):Int):=by
   rw [wrap_u64 (0 - (p + 1)) (by omega) (by omega),wrap_u64 _ (by omega) (by omega)]; omega
  simp only [hp,c_ref05_Decimal,sxZ,z6,z7,z8,j3,j6,j7,j8,j9,x0,x5,x6,x7,x8,x9,y3,reduceCtorEq,↓reduceIte]
  refine ⟨⟨by omega,by omega⟩,⟨by omega,by omega⟩,?_⟩
  rw [e1]
  refine zae (zhJ p.natAbs (by omega) ?_)
  have hd:=Lib.nDigits_le20 p.natAbs (by omega)
  have hl:=Lib.decDigits_length p.natAbs
  simp only [sxZ,z6,z7,z8,j3,j6,j7,j8,j9,x0,x5,x6,x7,x8,x9,y3,reduceCtorEq,↓reduceIte]
  exact ⟨by omega,hk⟩
 ·rw [if_neg hp] at hk
  have e1:IntKind.u64.wrap p=((p.toNat:Nat):Int):=by
   rw [wrap_u64 p (by omega) (by omega)]; omega
  simp only [hp,c_ref05_Decimal,sxZ,z6,z7,z8,j3,j6,j7,j8,j9,x0,x5,x6,x7,x8,x9,y3,reduceCtorEq,↓reduceIte]
  rw [e1]
  refine zae (zhJ p.toNat (by omega) ?_)
  simp only [sxZ,z6,z7,z8,j3,j6,j7,j8,j9,x0,x5,x6,x7,x8,x9,y3,reduceCtorEq,↓reduceIte]
  exact hk
theorem zna (h:List UInt8) (p:Int) (hh:h.length ≤ 200000000000000) (h0:-9223372036854775808 ≤ p) (h1:p ≤ 9223372036854775807) (hk:K objs (.s (ziK h p))):zad Tryz.prog 70 [zdS h p] objs K:=by
 refine za1 is_ref05_Format rfl fun C _ => ?_
 have hl:=Lib.itoa_length_le p h0 h1
 unfold ziK at hk
 by_cases hp:p=0
 ·rw [if_pos hp] at hk
  simp only [zdS,hp,c_ref05_Format,sxZ,z6,z7,z8,j3,j6,j7,j8,j9,x0,x5,x6,x7,x8,x9,y3,reduceCtorEq,↓reduceIte]
  exact hk
 ·rw [if_neg hp] at hk
  simp only [zdS,hp,c_ref05_Format,sxZ,z6,z7,z8,j3,j6,j7,j8,j9,x0,x5,x6,x7,x8,x9,y3,reduceCtorEq,↓reduceIte]
  refine ⟨by omega,?_⟩
  refine zb6 (zgK p h0 h1 ⟨rfl,rfl⟩) ?_
  simp only [sxZ,z6,z7,z8,j3,j6,j7,j8,j9,x0,x5,x6,x7,x8,x9,y3,reduceCtorEq,↓reduceIte]
  exact ⟨by omega,hk⟩
theorem zjo (s:List UInt8) (hs:s.length ≤ 1000000) (hk:K objs (.tup [zdS (hpE s).2.1 (hpE s).2.2,.i .i64 (hpE s).1])):zad Tryz.prog 142 [.s s] objs K:=by
 have hm:maxLen=2 ^ 63 - 1:=rfl
 have e443:((443:Nat):Int)=443:=rfl
 have ez:((0:Nat):Int)=0:=rfl
 refine za1 is_ref05_Parse rfl fun C _ => ?_
 simp only [zdS,hpE] at hk
 simp only [c_ref05_Parse,sxZ,z6,z7,z8,j3,j6,j7,j8,j9,x0,x5,x6,x7,x8,x9,y3,reduceCtorEq,↓reduceIte]
 refine zae (zaZ s [58] (by omega) (by simp; omega) ?_)
 have c58:=zer 58 s
 by_cases h58:zaz s [58] < s.length
 ·rw [c58.1 h58] at hk
  simp only [sxZ,z6,z7,z8,j3,j6,j7,j8,j9,x0,x5,x6,x7,x8,x9,y3,reduceCtorEq,↓reduceIte]
  refine ⟨⟨by omega,by omega⟩,?_⟩
  have hl:(s.take (zaz s [58])).length ≤ s.length:=by rw [List.length_take]; omega
  have hd:(s.drop (zaz s [58] + 1)).length ≤ s.length:=by rw [List.length_drop]; omega
  refine zae (zlB _ (by omega) ?_)
  simp only [sxZ,z6,z7,z8,j3,j6,j7,j8,j9,x0,x5,x6,x7,x8,x9,y3,reduceCtorEq,↓reduceIte]
  by_cases h1:(zaK (s.take (zaz s [58]))).1=0
  ·have hne:¬ ((zaz s [58]:Nat):Int)=((s.length:Nat):Int):=by omega
   simp only [h1,hne,ez,sxZ,z6,z7,z8,j3,j6,j7,j8,j9,x0,x5,x6,x7,x8,x9,y3,reduceCtorEq,↓reduceIte] at hk ⊢
   refine ⟨⟨by omega,by omega⟩,⟨by omega,by omega⟩,?_⟩
   refine zae (rhPort_k _ (by omega) ?_)
   simp only [sxZ,z6,z7,z8,j3,j6,j7,j8,j9,x0,x5,x6,x7,x8,x9,y3,reduceCtorEq,↓reduceIte]
   by_cases h2:(zcZ (s.drop (zaz s [58] + 1))).1=0
   ·by_cases h3:(zcZ (s.drop (zaz s [58] + 1))).2=443
    ·simp only [h2,h3,e443,ez,sxZ,z6,z7,z8,j3,j6,j7,j8,j9,x0,x5,x6,x7,x8,x9,y3,reduceCtorEq,↓reduceIte] at hk ⊢
     exact hk
    ·have h3':¬ ((((zcZ (s.drop (zaz s [58] + 1))).2:Nat):Int)=443):=by omega
     simp only [h2,h3,h3',sxZ,z6,z7,z8,j3,j6,j7,j8,j9,x0,x5,x6,x7,x8,x9,y3,reduceCtorEq,↓reduceIte] at hk ⊢
     exact hk
   ·simp only [h2,ez,sxZ,z6,z7,z8,j3,j6,j7,j8,j9,x0,x5,x6,x7,x8,x9,y3,reduceCtorEq,↓reduceIte] at hk ⊢
    exact hk
  ·simp only [h1,ez,sxZ,z6,z7,z8,j3,j6,j7,j8,j9,x0,x5,x6,x7,x8,x9,y3,reduceCtorEq,↓reduceIte] at hk ⊢
   exact hk
 ·have hx:((zaz s [58]:Nat):Int)=((s.length:Nat):Int):=by have:=ziH s [58]; omega
  rw [c58.2 h58] at hk
  simp only [hx,sxZ,z6,z7,z8,j3,j6,j7,j8,j9,x0,x5,x6,x7,x8,x9,y3,reduceCtorEq,↓reduceIte]
  refine ⟨⟨by omega,by omega⟩,?_⟩
  refine zae (zlB _ (by omega) ?_)
  by_cases h1:(zaK s).1=0
  ·simp only [h1,ez,sxZ,z6,z7,z8,j3,j6,j7,j8,j9,x0,x5,x6,x7,x8,x9,y3,reduceCtorEq,↓reduceIte] at hk ⊢
   exact hk
  ·simp only [h1,ez,sxZ,z6,z7,z8,j3,j6,j7,j8,j9,x0,x5,x6,x7,x8,x9,y3,reduceCtorEq,↓reduceIte] at hk ⊢
   exact hk
end
end Go.Proofs.YtljbdpihiboeaaaGreatDoor
namespace Go.Proofs.YtljbdpihiboeaaaGreatDoor
theorem zg0 (c x:UInt8):∀ l:List UInt8,x ∈ l → x=c ∨ ∃ p ∈ zag c l,x ∈ p
 | [],h => by cases h
 | y :: t,h => by
  obtain ⟨p,ps,e⟩:=zaG c t
  rw [zaE,e]
  by_cases hy:y=c
  ·rw [if_pos hy]
   rcases List.mem_cons.1 h with rfl | h
   ·exact .inl hy
   ·rcases zg0 c x t h with h | ⟨q,hq,hx⟩
    ·exact .inl h
    ·exact .inr ⟨q,by rw [← e]; exact List.mem_cons_of_mem _ hq,hx⟩
  ·rw [if_neg hy]
   rcases List.mem_cons.1 h with rfl | h
   ·exact .inr ⟨_,List.mem_cons_self ..,List.mem_cons_self ..⟩
   ·rcases zg0 c x t h with h | ⟨q,hq,hx⟩
    ·exact .inl h
    ·rw [e] at hq
     rcases List.mem_cons.1 hq with rfl | hq
     ·exact .inr ⟨_,List.mem_cons_self ..,List.mem_cons_of_mem _ hx⟩
     ·exact .inr ⟨q,List.mem_cons_of_mem _ hq,hx⟩
theorem ziU {l:List UInt8} (h:zcT l=true):l.all zak=true:=by
 unfold zcT at h
 have h1:=of_decide_eq_true h
 unfold zaF at h1
 split at h1
 ·rename_i h2
  exact (zeH h2).2
 ·rename_i h2; exact absurd h1 h2
theorem zfS {h:List UInt8} (hh:(zaK h).1=0):∀ x ∈ h,x=46 ∨ lbB x=true:=by
 intro x hx
 unfold zaK at hh
 split at hh
 ·cases hh
 ·split at hh
  ·cases hh
  ·split at hh
   ·rename_i h1 h2 h3
    rcases zg0 46 x h hx with h4 | ⟨p,hp,hxp⟩
    ·exact .inl h4
    ·rw [Bool.or_eq_true] at h3
     rcases h3 with h3 | h3
     ·unfold zcz at h3
      simp only [Bool.and_eq_true,List.all_eq_true] at h3
      have:=h3.1 p hp
      unfold zbq at this
      simp only [Bool.and_eq_true,List.all_eq_true] at this
      exact .inr (this.2 x hxp)
     ·unfold zcs zkr at h3
      simp only [Bool.and_eq_true,List.all_eq_true] at h3
      have:=List.all_eq_true.1 (ziU (h3.2 p hp)) x hxp
      exact .inr (by unfold lbB; rw [this]; simp)
   ·cases hh
theorem hb256:∀ n:Fin 256,(lbB (UInt8.ofNat n.val)=true ∨ UInt8.ofNat n.val=46) → zbb (UInt8.ofNat n.val) [58,64,47,63,35]=false:=by decide +kernel
theorem zmc (c:UInt8) (h:c=46 ∨ lbB c=true):zbb c [58,64,47,63,35]=false:=by
 have:=hb256 ⟨c.toNat,UInt8.toNat_lt c⟩
 simp only [UInt8.ofNat_toNat] at this
 exact this h.symm
theorem host_not {h:List UInt8} (hh:(zaK h).1=0) (c:UInt8) (hc:zbb c [58,64,47,63,35]=true):c ∉ h:=by
 intro hm
 have:=zmc c (zfS hh c hm)
 rw [hc] at this; cases this
theorem ziE (n:Nat):Lib.itoa (n:Int)=Lib.decDigits n:=by
 unfold Lib.itoa
 rw [if_neg (by omega)]; rfl
theorem zoQ (n:Nat) (h0:n ≠ 0) (h1:n ≤ 65535):zcZ (Lib.decDigits n)=(0,n):=by
 unfold zcZ
 rw [zm3 n 65535 h1,if_pos ⟨rfl,h0⟩]
theorem hp_fmt {h:List UInt8} {n:Nat} (hh:zaK h=(0,h)) (h1:n ≤ 65535) (h2:n ≠ 443):hpE (ziK h n)=(0,h,n):=by
 have hh0:(zaK h).1=0:=by rw [hh]
 have h58:(58:UInt8) ∉ h:=host_not hh0 58 (by decide)
 unfold ziK
 by_cases h0:n=0
 ·subst h0
  rw [if_pos (show ((0:Nat):Int)=0 from rfl)]
  unfold hpE
  rw [zbZ 58 h h58]
  simp only
  rw [hh]
  simp
 ·rw [if_neg (by omega),ziE]
  unfold hpE
  have:h ++ [58] ++ Lib.decDigits n=h ++ 58 :: Lib.decDigits n:=by simp
  rw [this,zaP 58 h _ h58]
  simp only
  rw [hh,zoQ n h0 h1,if_neg (by simp),if_neg (by simp),if_neg (by simp),if_neg h2]
theorem ziI {l h:List UInt8} {n:Nat} (hl:hpE l=(0,h,n)):zaK h=(0,h) ∧ n ≤ 65535 ∧ n ≠ 443 ∧ h.length ≤ 253 ∧ h.length ≤ l.length:=by
 have hcl:=(za2 58 l).1
 unfold hpE at hl
 split at hl
 ·rename_i h1; injection hl with h2 _; exact absurd h2 h1
 ·rename_i h1
  simp only [Decidable.not_not] at h1
  have hho:zaK (zaq 58 l).1=(0,(zaK (zaq 58 l).1).2):=by rw [← h1]
  obtain ⟨k1,k2,k3,_⟩:=zfT hho
  split at hl
  ·injection hl with _ hl
   injection hl with e1 e2
   subst e1 e2
   exact ⟨k1,by omega,by omega,k3,by omega⟩
  ·split at hl
   ·rename_i h2; injection hl with h3 _; exact absurd h3 h2
   ·injection hl with _ hl
    injection hl with e1 e2
    subst e1
    have hp:=zlJ (zaq 58 l).2.1
    refine ⟨k1,?_,?_,k3,by omega⟩
    ·rw [← e2]; split <;> omega
    ·rw [← e2]; split <;> omega
theorem hp_err {l:List UInt8} (h:(hpE l).1 ≠ 0):(hpE l).2=([],0):=by
 unfold hpE at h ⊢
 split
 ·rfl
 ·rename_i h1; rw [if_neg h1] at h
  split
  ·rename_i h2; rw [if_pos h2] at h; exact absurd rfl h
  ·rename_i h2; rw [if_neg h2] at h
   split
   ·rfl
   ·rename_i h3; rw [if_neg h3] at h; exact absurd rfl h
theorem wf_i64 {n:Int} (h:(Lit.int .i64 n).wf=true):-9223372036854775808 ≤ n ∧ n ≤ 9223372036854775807:=by
 have h1:(decide (IntKind.min .i64 ≤ n) && decide (n ≤ IntKind.max .i64))=true:=h
 simp only [Bool.and_eq_true,decide_eq_true_eq] at h1
 have e1:IntKind.min .i64=-9223372036854775808:=by decide
 have e2:IntKind.max .i64=9223372036854775807:=by decide
 omega
end Go.Proofs.YtljbdpihiboeaaaGreatDoor
namespace Go.Proofs.YtljbdpihiboeaaaGreatDoor
open Go.RowKit Sx
def zfo (u:UriP):List UInt8:=(if u.hs=true then u.scheme ++ [58] else []) ++ (if u.ha=true then [47,47] ++ u.auth else []) ++ u.path ++ (if u.hq=true then [63] ++ u.query else []) ++ (if u.hf=true then [35] ++ u.frag else [])
section
variable [Tabs Tryz.prog] {objs:List OB} {K:List OB → AV → Prop}
end
end Go.Proofs.YtljbdpihiboeaaaGreatDoor
namespace Go.Proofs.YtljbdpihiboeaaaGreatDoor
open Go.RowKit Sx
def keepL (p:List UInt8):List UInt8:=p.take (Lib.lastIndexByte (S p) 47 + 1).toNat
def mergeU (b:UriP) (r:List UInt8):List UInt8:=if b.ha=true ∧ b.path=[] then 47 :: r else keepL b.path ++ r
section
variable [Tabs Tryz.prog] {objs:List OB} {K:List OB → AV → Prop}
end
end Go.Proofs.YtljbdpihiboeaaaGreatDoor
namespace Go.Proofs.YtljbdpihiboeaaaGreatDoor
open Go.RowKit Sx
def zgg (b r:UriP):UriP :=
 if r.hs=true then { r with path:=zaS r.path }
 else if r.ha=true then { r with scheme:=b.scheme,hs:=b.hs,path:=zaS r.path }
 else if r.path=[] then { scheme:=b.scheme,hs:=b.hs,auth:=b.auth,ha:=b.ha,path:=b.path,query:=if r.hq=true then r.query else b.query,hq:=if r.hq=true then r.hq else b.hq,frag:=r.frag,hf:=r.hf }
 else { scheme:=b.scheme,hs:=b.hs,auth:=b.auth,ha:=b.ha,path:=if r.path.head? = some 47 then zaS r.path else zaS (mergeU b r.path),query:=r.query,hq:=r.hq,frag:=r.frag,hf:=r.hf }
section
variable [Tabs Tryz.prog] {objs:List OB} {K:List OB → AV → Prop}
end
end Go.Proofs.YtljbdpihiboeaaaGreatDoor
namespace Go.Proofs.YtljbdpihiboeaaaGreatDoor
theorem zd5 (c:UInt8):∀ l:List UInt8,l=(zaq c l).1 ++ (if (zaq c l).2.2=true then [c] ++ (zaq c l).2.1 else [])
 | [] => rfl
 | x :: t => by
  have ih:=zd5 c t
  rw [zcx]
  by_cases hx:x=c
  ·subst hx; simp
  ·rw [if_neg hx]
   show x :: t=x :: ((zaq c t).1 ++ _)
   rw [← ih]
theorem zqr (c:UInt8) (l:List UInt8):(zaq c l).1.length ≤ l.length:=by
 have h:=congrArg List.length (zd5 c l)
 rw [List.length_append] at h
 omega
theorem sch_join (l:List UInt8) (h:(zaq 58 (zat l)).2.2=true):l=(zaq 58 (zat l)).1 ++ [58] ++ l.drop ((zaq 58 (zat l)).1.length + 1):=by
 have sx:=zfF l
 by_cases hk:∃ hk:zaz l [58,47] < l.length,l[zaz l [58,47]]=58
 ·obtain ⟨h1,h2⟩:=hk
  obtain ⟨q1,q2,_⟩:=sx.1 h1 h2
  rw [q2]
  conv => lhs; rw [← List.take_append_drop (zaz l [58,47]) l,List.drop_eq_getElem_cons h1,h2]
  rw [← q1]; simp
 ·have:=sx.2 (fun h1 h2 => hk ⟨h1,h2⟩)
  rw [h] at this; cases this
theorem zpN (r:List UInt8):r=(if zbK r=true then [47,47] ++ zbd r else []) ++ zby r:=by
 by_cases h:zbK r=true
 ·have ea:zbd r=zat (r.drop 2):=by unfold zbd; rw [if_pos h]
  have eb:zby r=(r.drop 2).drop (zbd r).length:=by unfold zby; rw [if_pos h]
  rw [if_pos h,eb]
  have hp:[47,47] ++ r.drop 2=r:=by
   have:=List.isPrefixOf_iff_prefix.1 (show Lib.hasPrefix r [47,47]=true from h)
   obtain ⟨t,rfl⟩:=this
   simp
  have hf:=(zaI (r.drop 2)).1
  have:zbd r ++ (r.drop 2).drop (zbd r).length=r.drop 2:=by
   rw [ea]
   conv => lhs; lhs; rw [hf]
   exact List.take_append_drop _ _
  rw [List.append_assoc,this,hp]
 ·unfold zby
  rw [if_neg h,if_neg h]; simp
theorem zhC (s:List UInt8) (h:(zav s).1=0):zfo (zav s).2=s:=by
 unfold zav at h ⊢
 split
 ·rename_i h1; rw [if_pos h1] at h; cases h
 ·rename_i h1
  rw [if_neg h1] at h
  split
  ·rename_i h2; rw [if_pos h2] at h; cases h
  ·rename_i h2
   clear h h2 h1
   unfold zfo
   simp only
   have e1:=zd5 35 s
   have e2:=zd5 63 (zaq 35 s).1
   have e3:=zpN (zd1 s)
   have e4:zcA s=(if (zbw s).2.2=true then (zbw s).1 ++ [58] else []) ++ zd1 s:=by
    unfold zd1
    by_cases h:(zbw s).2.2=true
    ·rw [if_pos h,if_pos h]; exact sch_join (zcA s) h
    ·rw [if_neg h,if_neg h]; rfl
   have e5:(if (zbw s).2.2=true then (if (zbw s).2.2=true then (zbw s).1 else []) ++ [58] else [])=(if (zbw s).2.2=true then (zbw s).1 ++ [58] else []):=by split <;> rfl
   rw [e5,List.append_assoc (if (zbw s).2.2=true then (zbw s).1 ++ [58] else []),← e3,← e4]
   show (zaq 63 (zaq 35 s).1).1 ++ _ ++ _=s
   rw [← e2,← e1]
theorem zn6 (s:List UInt8) (h:(zav s).1 ≠ 0):(zav s).2=zfA:=by
 unfold zav at h ⊢
 split
 ·rfl
 ·rename_i h1; rw [if_neg h1] at h
  split
  ·rfl
  ·rename_i h2; rw [if_neg h2] at h; exact absurd rfl h
end Go.Proofs.YtljbdpihiboeaaaGreatDoor
namespace Go.Proofs.YtljbdpihiboeaaaGreatDoor
open Nat renaming reduceAdd → z6, reduceSub → z7, reduceLeDiff → z8, reduceLT → j3, reduceMul → j6, reduceEqDiff → j7
open Int renaming reduceToNat → j8, reduceAdd → j9, reduceSub → x0, reduceMul → x5, reduceNeg → x6, reduceLT → x7, reduceLE → x8, reduceEq → x9, reduceNe → y3
structure UrlP where
 host:List UInt8
 port:Int
 path:List UInt8
 query:List UInt8
 frag:List UInt8
 hq:Bool
 hf:Bool
def zdc:UrlP:=⟨[],0,[],[],[],false,false⟩
def zct:List UInt8:=[104,116,116,112,115]
def zan:List UInt8:=[33,36,38,39,40,41,42,43,44,59,61,58,64,47]
def zaf:List UInt8:=[33,36,38,39,40,41,42,43,44,59,61,58,64,47,63]
def zdV (u:UrlP):List UInt8:=if u.hq=true then u.path ++ [63] ++ u.query else u.path
def zcm (u:UrlP):List UInt8:=[104,116,116,112,115,58,47,47] ++ ziK u.host u.port ++ zdV u ++ (if u.hf=true then [35] ++ u.frag else [])
def zay (p:UriP):Int × List UInt8 × Nat :=
 if p.hs=false then (60,[],0)
 else if eqL p.scheme zct=false then (60,[],0)
 else if p.ha=false then (71,[],0)
 else if (zaq 64 p.auth).2.2=true then (70,[],0)
 else hpE p.auth
def zcC (l:List UInt8):List UInt8:=if zaS l=[] then [47] else zaS l
def zb5 (p:UriP):Int × UrlP :=
 if (zai p.path zan).1 ≠ 0 then ((zai p.path zan).1,zdc)
 else if (zai p.query zaf).1 ≠ 0 then ((zai p.query zaf).1,zdc)
 else if (zai p.frag zaf).1 ≠ 0 then ((zai p.frag zaf).1,zdc)
 else (0,⟨[],0,zcC (zai p.path zan).2,(zai p.query zaf).2,(zai p.frag zaf).2,p.hq,p.hf⟩)
def zhq (h:List UInt8) (n:Nat) (u:UrlP):UrlP:=⟨h,n,u.path,u.query,u.frag,u.hq,u.hf⟩
def webF (u:UrlP):Int × UrlP:=if 4096 < (zcm u).length then (5,zdc) else (0,u)
def webO (p:UriP):Int × UrlP :=
 if (zay p).1 ≠ 0 then ((zay p).1,zdc)
 else if (zb5 p).1 ≠ 0 then ((zb5 p).1,zdc)
 else webF (zhq (zay p).2.1 (zay p).2.2 (zb5 p).2)
def ze5 (s:List UInt8):Int × UrlP :=
 if 4096 < s.length then (5,zdc)
 else if (zav s).1 ≠ 0 then ((zav s).1,zdc)
 else webO (zav s).2
instance:DecidableEq UrlP:=fun a b =>
 decidable_of_iff (a.host=b.host ∧ a.port=b.port ∧ a.path=b.path ∧ a.query=b.query ∧ a.frag=b.frag ∧ a.hq=b.hq ∧ a.hf=b.hf) (by
  cases a; cases b; simp)
def zcS (u:UrlP):Bool:=decide ((ze5 (zcm u)).1=0) && decide ((ze5 (zcm u)).2=u)
def relW (b:UrlP) (r:List UInt8):Int × UrlP :=
 if zcS b=false then (8,zdc)
 else if (zav r).1 ≠ 0 then ((zav r).1,zdc)
 else if eqL (zgg (zav (zcm b)).2 (zav r).2).scheme zct=false then (253,zdc)
 else ze5 (zfo (zgg (zav (zcm b)).2 (zav r).2))
theorem zhB (s:List UInt8):(zav s).2.scheme.length ≤ s.length ∧ (zav s).2.auth.length ≤ s.length ∧ (zav s).2.path.length ≤ s.length ∧ (zav s).2.query.length ≤ s.length ∧ (zav s).2.frag.length ≤ s.length:=by
 by_cases h:(zav s).1=0
 ·have hj:=congrArg List.length (zhC s h)
  have hsch:(zav s).2.hs=false → (zav s).2.scheme=[]:=by
   unfold zav
   split
   ·intro _; rfl
   ·split
    ·intro _; rfl
    ·intro h1; simp only at h1 ⊢; rw [if_neg (by rw [h1]; exact Bool.false_ne_true)]
  have hau:(zav s).2.ha=false → (zav s).2.auth=[]:=by
   unfold zav
   split
   ·intro _; rfl
   ·split
    ·intro _; rfl
    ·intro h1; simp only at h1 ⊢; unfold zbd; rw [if_neg (by rw [h1]; exact Bool.false_ne_true)]
  have hqu:(zav s).2.hq=false → (zav s).2.query=[]:=by
   unfold zav
   split
   ·intro _; rfl
   ·split
    ·intro _; rfl
    ·intro h1; simp only at h1 ⊢; exact ((zca 63 _).2.2 h1).2
  have hfr:(zav s).2.hf=false → (zav s).2.frag=[]:=by
   unfold zav
   split
   ·intro _; rfl
   ·split
    ·intro _; rfl
    ·intro h1; simp only at h1 ⊢; exact ((zca 35 _).2.2 h1).2
  revert hj hsch hau hqu hfr
  generalize (zav s).2=u
  obtain ⟨a,b,c,d,e,b1,b2,b3,b4⟩:=u
  intro hj hsch hau hqu hfr
  simp only [zfo] at hj hsch hau hqu hfr ⊢
  simp only [List.length_append] at hj
  have e1:a.length ≤ (if b1=true then a ++ [58] else []).length:=by
   cases b1
   ·rw [hsch rfl]; simp
   ·simp
  have e2:b.length ≤ (if b2=true then [47,47] ++ b else []).length:=by
   cases b2
   ·rw [hau rfl]; simp
   ·simp; omega
  have e3:d.length ≤ (if b3=true then [63] ++ d else []).length:=by
   cases b3
   ·rw [hqu rfl]; simp
   ·simp
  have e4:e.length ≤ (if b4=true then [35] ++ e else []).length:=by
   cases b4
   ·rw [hfr rfl]; simp
   ·simp
  omega
 ·rw [zn6 s h]; simp [zfA]
theorem zdA (l also:List UInt8):(zai l also).2.length ≤ l.length ∧ (zai l also).2.length ≤ 16384:=by
 by_cases h:(zai l also).1=0
 ·have e:zai l also=(0,(zai l also).2):=by rw [← h]
  have h1:=(zbH l also _ e).2.2
  have h2:=zeA e
  omega
 ·rw [zjD l also h]; simp
theorem zql:∀ (n:Nat) (i o:List UInt8),(ziR n i o).length ≤ o.length + i.length:=by
 intro n
 induction n with
 | zero => intro i o; show o.length ≤ _; omega
 | succ n ih =>
  intro i o
  unfold ziR
  split
  ·omega
  ·have:=ih (zax i o).1 (zax i o).2
   have h2:=zaJ (i:=i) (o:=o)
   omega
theorem zoB (l:List UInt8):(zaS l).length ≤ l.length:=by
 have h:=zql l.length l []
 rw [List.length_nil,Nat.zero_add] at h
 exact h
theorem zeZ (p:UriP):(zay p).2.2 ≤ 65535:=by
 have:=hpE_port p.auth
 unfold zay
 repeat' split
 all_goals first
  | exact this
  | exact Nat.zero_le _
theorem hpE_len (l:List UInt8):(hpE l).2.1.length ≤ 253:=by
 have hh:∀ q:List UInt8,(zaK q).2.length ≤ 253:=by
  intro q
  unfold zaK
  repeat' split
  all_goals first
   | exact Nat.zero_le _
   | (show (zbi q).length ≤ 253; rw [ze0]; omega)
 unfold hpE
 repeat' split
 all_goals first
  | exact hh _
  | simp
theorem zfL (p:UriP):(zay p).2.1.length ≤ 253:=by
 have:=hpE_len p.auth
 unfold zay
 repeat' split
 all_goals first
  | exact this
  | simp
theorem zky (l:List UInt8):(zcC l).length ≤ l.length + 1:=by
 have:=zoB l
 unfold zcC
 split
 ·simp
 ·omega
theorem zgM (p:UriP):(zb5 p).2.path.length ≤ 16385 ∧ (zb5 p).2.query.length ≤ 16384 ∧ (zb5 p).2.frag.length ≤ 16384:=by
 have h1:=zdA p.path zan
 have h2:=zdA p.query zaf
 have h3:=zdA p.frag zaf
 have h4:=zky (zai p.path zan).2
 unfold zb5
 repeat' split
 all_goals simp [zdc]
 omega
theorem zfE (u:UrlP):(zdV u).length ≤ u.path.length + u.query.length + 1:=by
 unfold zdV
 split
 ·simp only [List.length_append,List.length_cons,List.length_nil]; omega
 ·omega
theorem fmtW_len (u:UrlP) (h0:-9223372036854775808 ≤ u.port) (h1:u.port ≤ 9223372036854775807):(zcm u).length ≤ u.host.length + u.path.length + u.query.length + u.frag.length + 40:=by
 have h2:=ziJ u.host u.port h0 h1
 have h3:=zfE u
 unfold zcm
 simp only [List.length_append,List.length_cons,List.length_nil]
 split
 ·simp only [List.length_append,List.length_cons,List.length_nil]; omega
 ·simp only [List.length_nil]; omega
end Go.Proofs.YtljbdpihiboeaaaGreatDoor
namespace Go.Proofs.YtljbdpihiboeaaaGreatDoor
open Nat renaming reduceAdd → z6, reduceSub → z7, reduceLeDiff → z8, reduceLT → j3, reduceMul → j6, reduceEqDiff → j7
open Int renaming reduceToNat → j8, reduceAdd → j9, reduceSub → x0, reduceMul → x5, reduceNeg → x6, reduceLT → x7, reduceLE → x8, reduceEq → x9, reduceNe → y3
open Go.RowKit Sx
def zaA (u:UrlP):AV:=.agg [.s u.host,.i .i64 u.port,.s u.path,.s u.query,.s u.frag,.b u.hq,.b u.hf]
theorem znU:zaA zdc=.agg [.s [],.i .i64 0,.s [],.s [],.s [],.b false,.b false]:=rfl
theorem has_cut (l:List UInt8) (c:UInt8):decide (0 ≤ Lib.indexByte l c)=(zaq c l).2.2:=by
 rcases zbo c l with ⟨h1,h2,_⟩ | ⟨k,h1,_,h2,_⟩
 ·rw [h1,h2]; rfl
 ·rw [h1,h2]; simp
section
variable [Tabs Tryz.prog] {objs:List OB} {K:List OB → AV → Prop}
theorem znS (u:UrlP) (h1:u.path.length ≤ 200000000000000) (h2:u.query.length ≤ 200000000000000) (hk:K objs (.s (zdV u))):zad Tryz.prog 89 [zaA u] objs K:=by
 refine za1 is_weburl_Target rfl fun C _ => ?_
 unfold zdV at hk
 by_cases h:u.hq=true
 all_goals simp only [h,if_true,if_false,Bool.false_eq_true] at hk
 all_goals simp only [zaA,h,c_weburl_Target,sxZ,z6,z7,z8,j3,j6,j7,j8,j9,x0,x5,x6,x7,x8,x9,y3,reduceCtorEq,↓reduceIte]
 all_goals first
  | exact hk
  | exact ⟨by omega,by omega,hk⟩
theorem zm7 (u:UrlP) (h1:u.path.length ≤ 200000000000000) (h2:u.query.length ≤ 200000000000000) (hk:K objs (.s (zdV u))):zad Tryz.prog 72 [zaA u] objs K:=by
 refine za1 is_ref07_Target rfl fun C _ => ?_
 unfold zdV at hk
 by_cases h:u.hq=true
 all_goals simp only [h,if_true,if_false,Bool.false_eq_true] at hk
 all_goals simp only [zaA,h,c_ref07_Target,sxZ,z6,z7,z8,j3,j6,j7,j8,j9,x0,x5,x6,x7,x8,x9,y3,reduceCtorEq,↓reduceIte]
 all_goals first
  | exact hk
  | exact ⟨by omega,by omega,hk⟩
theorem zi4 (u:UrlP) (hk:K objs (zdS u.host u.port)):zad Tryz.prog 88 [zaA u] objs K:=by
 refine za1 is_weburl_Origin rfl fun C _ => ?_
 simp only [zaA,c_weburl_Origin,sxZ,z6,z7,z8,j3,j6,j7,j8,j9,x0,x5,x6,x7,x8,x9,y3,reduceCtorEq,↓reduceIte]
 exact hk
theorem zm8 (u:UrlP) (hk:K objs (zdS u.host u.port)):zad Tryz.prog 71 [zaA u] objs K:=by
 refine za1 is_ref07_Origin rfl fun C _ => ?_
 simp only [zaA,c_ref07_Origin,sxZ,z6,z7,z8,j3,j6,j7,j8,j9,x0,x5,x6,x7,x8,x9,y3,reduceCtorEq,↓reduceIte]
 exact hk
def zb9 (u:UrlP):Prop:=u.host.length ≤ 1000000 ∧ -9223372036854775808 ≤ u.port ∧ u.port ≤ 9223372036854775807 ∧ u.path.length ≤ 1000000 ∧ u.query.length ≤ 1000000 ∧ u.frag.length ≤ 1000000
theorem zdE [Pow Tryz.prog] (u:UrlP) (hu:zb9 u) (hk:K objs (.s (zcm u))):zad Tryz.prog 47 [zaA u] objs K:=by
 obtain ⟨h1,h2,h3,h4,h5,h6⟩:=hu
 have t1:=ziJ u.host u.port h2 h3
 have t2:=zfE u
 refine za1 is_weburl_Format rfl fun C _ => ?_
 unfold zcm at hk
 simp only [zaA,c_weburl_Format,sxZ,z6,z7,z8,j3,j6,j7,j8,j9,x0,x5,x6,x7,x8,x9,y3,reduceCtorEq,↓reduceIte]
 refine zb6 (zi4 u ⟨rfl,rfl⟩) ?_
 simp only [zdS,sxZ,z6,z7,z8,j3,j6,j7,j8,j9,x0,x5,x6,x7,x8,x9,y3,reduceCtorEq,↓reduceIte]
 refine zb6 (zpQ u.host u.port (by omega) h2 h3 ⟨rfl,rfl⟩) ?_
 simp only [sxZ,z6,z7,z8,j3,j6,j7,j8,j9,x0,x5,x6,x7,x8,x9,y3,reduceCtorEq,↓reduceIte]
 refine ⟨by omega,?_⟩
 refine zb6 (znS u (by omega) (by omega) ⟨rfl,rfl⟩) ?_
 simp only [sxZ,z6,z7,z8,j3,j6,j7,j8,j9,x0,x5,x6,x7,x8,x9,y3,reduceCtorEq,↓reduceIte]
 by_cases h:u.hf=true
 ·simp only [h,if_true,if_false,Bool.false_eq_true,List.append_nil] at hk
  simp only [h,sxZ,z6,z7,z8,j3,j6,j7,j8,j9,x0,x5,x6,x7,x8,x9,y3,reduceCtorEq,↓reduceIte]
  exact ⟨by omega,by omega,by omega,by simpa using hk⟩
 ·simp only [h,if_true,if_false,Bool.false_eq_true,List.append_nil] at hk
  simp only [h,sxZ,z6,z7,z8,j3,j6,j7,j8,j9,x0,x5,x6,x7,x8,x9,y3,reduceCtorEq,↓reduceIte]
  exact ⟨by omega,by simpa using hk⟩
theorem zch (u:UrlP) (hu:zb9 u) (hk:K objs (.s (zcm u))):zad Tryz.prog 41 [zaA u] objs K:=by
 obtain ⟨h1,h2,h3,h4,h5,h6⟩:=hu
 have t1:=ziJ u.host u.port h2 h3
 have t2:=zfE u
 refine za1 is_ref07_Format rfl fun C _ => ?_
 unfold zcm at hk
 simp only [zaA,c_ref07_Format,sxZ,z6,z7,z8,j3,j6,j7,j8,j9,x0,x5,x6,x7,x8,x9,y3,reduceCtorEq,↓reduceIte]
 refine zb6 (zm8 u ⟨rfl,rfl⟩) ?_
 simp only [zdS,sxZ,z6,z7,z8,j3,j6,j7,j8,j9,x0,x5,x6,x7,x8,x9,y3,reduceCtorEq,↓reduceIte]
 refine zb6 (zna u.host u.port (by omega) h2 h3 ⟨rfl,rfl⟩) ?_
 simp only [sxZ,z6,z7,z8,j3,j6,j7,j8,j9,x0,x5,x6,x7,x8,x9,y3,reduceCtorEq,↓reduceIte]
 refine ⟨by omega,?_⟩
 refine zb6 (zm7 u (by omega) (by omega) ⟨rfl,rfl⟩) ?_
 simp only [sxZ,z6,z7,z8,j3,j6,j7,j8,j9,x0,x5,x6,x7,x8,x9,y3,reduceCtorEq,↓reduceIte]
 by_cases h:u.hf=true
 ·simp only [h,if_true,if_false,Bool.false_eq_true,List.append_nil] at hk
  simp only [h,sxZ,z6,z7,z8,j3,j6,j7,j8,j9,x0,x5,x6,x7,x8,x9,y3,reduceCtorEq,↓reduceIte]
  exact ⟨by omega,by omega,by omega,by simpa using hk⟩
 ·simp only [h,if_true,if_false,Bool.false_eq_true,List.append_nil] at hk
  simp only [h,sxZ,z6,z7,z8,j3,j6,j7,j8,j9,x0,x5,x6,x7,x8,x9,y3,reduceCtorEq,↓reduceIte]
  exact ⟨by omega,by simpa using hk⟩
theorem zfZ (s:List UInt8) (c:UInt8) (hk:K objs (.b (zaq c s).2.2)):zad Tryz.prog 214 [.s s,.s [c]] objs K:=by
 rw [← has_cut] at hk
 exact conv (vs:=[.string (S s),.string (S [c])]) rfl rfl (fun w => (Tryz.strings_Contains_one (S s) c w).mono fun e w' ⟨h1,h2⟩ => ⟨h1,Qb.rev h2⟩) hk
theorem zmZ (p:UriP) (h1:p.scheme.length ≤ 1000000) (h2:p.auth.length ≤ 1000000) (hk:K objs (.tup [zdS (zay p).2.1 (zay p).2.2,.i .i64 (zay p).1])):zad Tryz.prog 188 [zbu p] objs K:=by
 have hm:maxLen=2 ^ 63 - 1:=rfl
 refine za1 is_weburl_parseOrigin rfl fun C _ => ?_
 unfold zay at hk
 by_cases c1:p.hs=true
 ·by_cases c2:eqL p.scheme zct=true
  ·by_cases c3:p.ha=true
   ·by_cases c4:(zaq 64 p.auth).2.2=true
    ·simp only [c1,c2,c3,c4,if_true,if_false,Bool.true_eq_false,zdS] at hk
     simp only [zbu,c1,c3,c_weburl_parseOrigin,sxZ,z6,z7,z8,j3,j6,j7,j8,j9,x0,x5,x6,x7,x8,x9,y3,reduceCtorEq,↓reduceIte]
     refine zae (zgr p.scheme zct (by omega) (by decide) ?_)
     simp only [c2,sxZ,z6,z7,z8,j3,j6,j7,j8,j9,x0,x5,x6,x7,x8,x9,y3,reduceCtorEq,↓reduceIte]
     refine zae (zfZ p.auth 64 ?_)
     simp only [c4,sxZ,z6,z7,z8,j3,j6,j7,j8,j9,x0,x5,x6,x7,x8,x9,y3,reduceCtorEq,↓reduceIte]
     exact hk
    ·simp only [c1,c2,c3,c4,if_true,if_false,Bool.true_eq_false,zdS] at hk
     simp only [zbu,c1,c3,c_weburl_parseOrigin,sxZ,z6,z7,z8,j3,j6,j7,j8,j9,x0,x5,x6,x7,x8,x9,y3,reduceCtorEq,↓reduceIte]
     refine zae (zgr p.scheme zct (by omega) (by decide) ?_)
     simp only [c2,sxZ,z6,z7,z8,j3,j6,j7,j8,j9,x0,x5,x6,x7,x8,x9,y3,reduceCtorEq,↓reduceIte]
     refine zae (zfZ p.auth 64 ?_)
     simp only [c4,sxZ,z6,z7,z8,j3,j6,j7,j8,j9,x0,x5,x6,x7,x8,x9,y3,reduceCtorEq,↓reduceIte]
     refine zae (zme p.auth (by omega) ?_)
     simp only [zdS,sxZ,z6,z7,z8,j3,j6,j7,j8,j9,x0,x5,x6,x7,x8,x9,y3,reduceCtorEq,↓reduceIte]
     exact hk
   ·simp only [c1,c2,c3,if_true,if_false,Bool.true_eq_false,zdS] at hk
    simp only [zbu,c1,c3,c_weburl_parseOrigin,sxZ,z6,z7,z8,j3,j6,j7,j8,j9,x0,x5,x6,x7,x8,x9,y3,reduceCtorEq,↓reduceIte]
    refine zae (zgr p.scheme zct (by omega) (by decide) ?_)
    simp only [c2,sxZ,z6,z7,z8,j3,j6,j7,j8,j9,x0,x5,x6,x7,x8,x9,y3,reduceCtorEq,↓reduceIte]
    exact hk
  ·simp only [c1,c2,if_true,if_false,Bool.true_eq_false,zdS] at hk
   simp only [zbu,c1,c_weburl_parseOrigin,sxZ,z6,z7,z8,j3,j6,j7,j8,j9,x0,x5,x6,x7,x8,x9,y3,reduceCtorEq,↓reduceIte]
   refine zae (zgr p.scheme zct (by omega) (by decide) ?_)
   simp only [c2,sxZ,z6,z7,z8,j3,j6,j7,j8,j9,x0,x5,x6,x7,x8,x9,y3,reduceCtorEq,↓reduceIte]
   exact hk
 ·simp only [c1,if_true,if_false,zdS] at hk
  simp only [zbu,c1,c_weburl_parseOrigin,sxZ,z6,z7,z8,j3,j6,j7,j8,j9,x0,x5,x6,x7,x8,x9,y3,reduceCtorEq,↓reduceIte]
  exact hk
theorem wRest_k (p:UriP) (hk:K objs (.tup [zaA (zb5 p).2,.i .i64 (zb5 p).1])):zad Tryz.prog 189 [zbu p] objs K:=by
 refine za1 is_weburl_parseRest rfl fun C _ => ?_
 have n1:=zdA p.path zan
 unfold zb5 at hk
 simp only [zbu,c_weburl_parseRest,sxZ,z6,z7,z8,j3,j6,j7,j8,j9,x0,x5,x6,x7,x8,x9,y3,reduceCtorEq,↓reduceIte]
 refine zae (zgS p.path zan ?_)
 simp only [sxZ,z6,z7,z8,j3,j6,j7,j8,j9,x0,x5,x6,x7,x8,x9,y3,reduceCtorEq,↓reduceIte]
 by_cases c1:(zai p.path zan).1=0
 ·simp only [c1,sxZ,z6,z7,z8,j3,j6,j7,j8,j9,x0,x5,x6,x7,x8,x9,y3,reduceCtorEq,↓reduceIte] at hk ⊢
  refine zae (uDots_k _ (by omega) ?_)
  have hs:zcC (zai p.path zan).2=if zaS (zai p.path zan).2=[] then [47] else zaS (zai p.path zan).2:=rfl
  by_cases c0:zaS (zai p.path zan).2=[]
  all_goals simp only [c0,sxZ,z6,z7,z8,j3,j6,j7,j8,j9,x0,x5,x6,x7,x8,x9,y3,reduceCtorEq,↓reduceIte] at hs
  all_goals rw [hs] at hk
  all_goals simp only [c0,sxZ,z6,z7,z8,j3,j6,j7,j8,j9,x0,x5,x6,x7,x8,x9,y3,reduceCtorEq,↓reduceIte]
  all_goals refine zae (zgS p.query zaf ?_)
  all_goals simp only [sxZ,z6,z7,z8,j3,j6,j7,j8,j9,x0,x5,x6,x7,x8,x9,y3,reduceCtorEq,↓reduceIte]
  all_goals by_cases c2:(zai p.query zaf).1=0
  all_goals simp only [c2,sxZ,z6,z7,z8,j3,j6,j7,j8,j9,x0,x5,x6,x7,x8,x9,y3,reduceCtorEq,↓reduceIte] at hk ⊢
  all_goals first
   | exact hk
   |refine zae (zgS p.frag zaf ?_)
    simp only [sxZ,z6,z7,z8,j3,j6,j7,j8,j9,x0,x5,x6,x7,x8,x9,y3,reduceCtorEq,↓reduceIte]
    by_cases c3:(zai p.frag zaf).1=0
    all_goals simp only [c3,sxZ,z6,z7,z8,j3,j6,j7,j8,j9,x0,x5,x6,x7,x8,x9,y3,reduceCtorEq,↓reduceIte] at hk ⊢
    all_goals exact hk
 ·simp only [c1,sxZ,z6,z7,z8,j3,j6,j7,j8,j9,x0,x5,x6,x7,x8,x9,y3,reduceCtorEq,↓reduceIte] at hk ⊢
  exact hk
theorem zlg [Pow Tryz.prog] (s:List UInt8) (hs:s.length ≤ maxLen) (hk:K objs (.tup [zaA (ze5 s).2,.i .i64 (ze5 s).1])):zad Tryz.prog 159 [.s s] objs K:=by
 have hm:maxLen=2 ^ 63 - 1:=rfl
 refine za1 is_weburl_Parse rfl fun C _ => ?_
 unfold ze5 webO at hk
 by_cases c0:(4096:Int) < ↑s.length
 ·have c0':4096 < s.length:=by omega
  simp only [c0',if_true,znU] at hk
  simp only [c0,c_weburl_Parse,sxZ,z6,z7,z8,j3,j6,j7,j8,j9,x0,x5,x6,x7,x8,x9,y3,reduceCtorEq,↓reduceIte]
  exact hk
 ·have c0':¬ 4096 < s.length:=by omega
  simp only [c0',if_false] at hk
  simp only [c0,c_weburl_Parse,sxZ,z6,z7,z8,j3,j6,j7,j8,j9,x0,x5,x6,x7,x8,x9,y3,reduceCtorEq,↓reduceIte]
  refine zae (uSplit_k _ ?_)
  have sl:=zhB s
  have op:=zeZ (zav s).2
  have ol:=zfL (zav s).2
  have rl:=zgM (zav s).2
  generalize hp:(zav s).2=p at *
  by_cases c1:(zav s).1=0
  ·simp only [c1,zbu,sxZ,z6,z7,z8,j3,j6,j7,j8,j9,x0,x5,x6,x7,x8,x9,y3,reduceCtorEq,↓reduceIte] at hk ⊢
   refine zae (zmZ p (by omega) (by omega) ?_)
   simp only [sxZ,z6,z7,z8,j3,j6,j7,j8,j9,x0,x5,x6,x7,x8,x9,y3,reduceCtorEq,↓reduceIte]
   by_cases c2:(zay p).1=0
   ·simp only [c2,zdS,zbu,sxZ,z6,z7,z8,j3,j6,j7,j8,j9,x0,x5,x6,x7,x8,x9,y3,reduceCtorEq,↓reduceIte] at hk ⊢
    refine zae (wRest_k p ?_)
    by_cases c3:(zb5 p).1=0
    ·have hsh:zb9 (zhq (zay p).2.1 (zay p).2.2 (zb5 p).2):=⟨by show (zay p).2.1.length ≤ _; omega,by show _ ≤ (((zay p).2.2:Nat):Int); omega,by show (((zay p).2.2:Nat):Int) ≤ _; omega,by show (zb5 p).2.path.length ≤ _; omega,by show (zb5 p).2.query.length ≤ _; omega,by show (zb5 p).2.frag.length ≤ _; omega⟩
     simp only [c3,sxZ,z6,z7,z8,j3,j6,j7,j8,j9,x0,x5,x6,x7,x8,x9,y3,reduceCtorEq,↓reduceIte] at hk
     simp only [c3,zaA,sxZ,z6,z7,z8,j3,j6,j7,j8,j9,x0,x5,x6,x7,x8,x9,y3,reduceCtorEq,↓reduceIte]
     refine zae (zdE (zhq (zay p).2.1 (zay p).2.2 (zb5 p).2) hsh ?_)
     by_cases c4:4096 < (zcm (zhq (zay p).2.1 (zay p).2.2 (zb5 p).2)).length
     ·rw [webF,if_pos c4] at hk
      have c4':(4096:Int) < ((zcm (zhq (zay p).2.1 (zay p).2.2 (zb5 p).2)).length:Nat):=by omega
      simp only [zaA,zdc,sxZ,z6,z7,z8,j3,j6,j7,j8,j9,x0,x5,x6,x7,x8,x9,y3,reduceCtorEq,↓reduceIte] at hk
      simp only [c4',sxZ,z6,z7,z8,j3,j6,j7,j8,j9,x0,x5,x6,x7,x8,x9,y3,reduceCtorEq,↓reduceIte]
      exact hk
     ·rw [webF,if_neg c4] at hk
      have c4':¬ (4096:Int) < ((zcm (zhq (zay p).2.1 (zay p).2.2 (zb5 p).2)).length:Nat):=by omega
      simp only [zaA,zhq,sxZ,z6,z7,z8,j3,j6,j7,j8,j9,x0,x5,x6,x7,x8,x9,y3,reduceCtorEq,↓reduceIte] at hk
      simp only [c4',sxZ,z6,z7,z8,j3,j6,j7,j8,j9,x0,x5,x6,x7,x8,x9,y3,reduceCtorEq,↓reduceIte]
      exact hk
    ·simp only [c3,zaA,zdc,sxZ,z6,z7,z8,j3,j6,j7,j8,j9,x0,x5,x6,x7,x8,x9,y3,reduceCtorEq,↓reduceIte] at hk ⊢
     exact hk
   ·simp only [c2,zdS,zaA,zdc,sxZ,z6,z7,z8,j3,j6,j7,j8,j9,x0,x5,x6,x7,x8,x9,y3,reduceCtorEq,↓reduceIte] at hk ⊢
    exact hk
  ·simp only [c1,zbu,zaA,zdc,sxZ,z6,z7,z8,j3,j6,j7,j8,j9,x0,x5,x6,x7,x8,x9,y3,reduceCtorEq,↓reduceIte] at hk ⊢
   exact hk
end
end Go.Proofs.YtljbdpihiboeaaaGreatDoor
namespace Go.Proofs.YtljbdpihiboeaaaGreatDoor
def idB (c:UInt8):Bool:=za0 c || zak c || zbb c [46,45,95]
def zbr:List UInt8:=[46,45,95,58]
def meB (c:UInt8):Bool:=zak c || (decide (97 ≤ c.toNat) && decide (c.toNat ≤ 122))
def zbM (l:List UInt8):Bool:=l.all meB && !l.isEmpty
def zkq (c:UInt8) (new s:List UInt8):List UInt8:=s.flatMap fun x => if x=c then new else [x]
def zcN (s:List UInt8):List UInt8:=zkq 126 [37,55,69] s
def ibB (c:UInt8):Bool:=c == 37 || idB c || c == 58
def idE (l:List UInt8):Int × List UInt8 :=
 if (zaO l).1 ≠ 0 then ((zaO l).1,[])
 else if l.all ibB=false then (1,[])
 else if l=[] ∨ l.getLast? = some 58 then (3,[])
 else if (zai l zbr).1 ≠ 0 then ((zai l zbr).1,[])
 else (0,zcN (zai l zbr).2)
def zbD:List UInt8:=[100,105,100,58]
def zb7 (s:List UInt8):Int × List UInt8 × List UInt8 :=
 if 4096 < s.length then (5,[],[])
 else if Lib.hasPrefix s zbD=false then (60,[],[])
 else if (zaq 58 (s.drop 4)).2.2=false then (6,[],[])
 else if zbM (zaq 58 (s.drop 4)).1=false then (100,[],[])
 else if (idE (zaq 58 (s.drop 4)).2.1).1 ≠ 0 then ((idE (zaq 58 (s.drop 4)).2.1).1,[],[])
 else (0,(zaq 58 (s.drop 4)).1,(idE (zaq 58 (s.drop 4)).2.1).2)
structure DidU where
 meth:List UInt8
 id:List UInt8
 path:List UInt8
 query:List UInt8
 frag:List UInt8
 hq:Bool
 hf:Bool
instance:DecidableEq DidU:=fun a b =>
 decidable_of_iff (a.meth=b.meth ∧ a.id=b.id ∧ a.path=b.path ∧ a.query=b.query ∧ a.frag=b.frag ∧ a.hq=b.hq ∧ a.hf=b.hf) (by
  cases a; cases b; simp)
def didZ:DidU:=⟨[],[],[],[],[],false,false⟩
def zf7 (s:List UInt8):List UInt8:=zat (zcA s)
def didUE (s:List UInt8):Int × DidU :=
 if 4096 < s.length then (5,didZ)
 else if (zb7 (zf7 s)).1 ≠ 0 then ((zb7 (zf7 s)).1,didZ)
 else if (zai ((zcA s).drop (zf7 s).length) zan).1 ≠ 0 then ((zai ((zcA s).drop (zf7 s).length) zan).1,didZ)
 else if (zai (zaq 63 (zaq 35 s).1).2.1 zaf).1 ≠ 0 then ((zai (zaq 63 (zaq 35 s).1).2.1 zaf).1,didZ)
 else if (zai (zaq 35 s).2.1 zaf).1 ≠ 0 then ((zai (zaq 35 s).2.1 zaf).1,didZ)
 else (0,⟨(zb7 (zf7 s)).2.1,(zb7 (zf7 s)).2.2,(zai ((zcA s).drop (zf7 s).length) zan).2,(zai (zaq 63 (zaq 35 s).1).2.1 zaf).2,(zai (zaq 35 s).2.1 zaf).2,(zaq 63 (zaq 35 s).1).2.2,(zaq 35 s).2.2⟩)
def zbk (m i:List UInt8):List UInt8:=zbD ++ m ++ [58] ++ i
def ziL (u:DidU):List UInt8:=zbk u.meth u.id ++ u.path ++ (if u.hq=true then [63] ++ u.query else []) ++ (if u.hf=true then [35] ++ u.frag else [])
theorem zdi (c:UInt8):∀ s:List UInt8,Lib.index s [c]=Lib.indexByte s c
 | [] => rfl
 | b :: l => by
  have ih:=zdi c l
  unfold Lib.index Lib.indexByte
  rw [ih]
  by_cases h:b=c
  ·subst h; simp
  ·have h':¬ c=b:=fun e => h e.symm
   simp [h,h']
theorem zfj (c:UInt8) (new:List UInt8):∀ s:List UInt8,c ∉ s → zkq c new s=s
 | [],_ => rfl
 | x :: s,h => by
  simp only [List.mem_cons,not_or] at h
  unfold zkq
  rw [List.flatMap_cons,if_neg (fun e => h.1 e.symm)]
  show [x] ++ zkq c new s=_
  rw [zfj c new s h.2]; rfl
theorem zeX (c:UInt8) (new a b:List UInt8):zkq c new (a ++ b)=zkq c new a ++ zkq c new b:=by simp [zkq]
theorem zjs (c:UInt8) (new:List UInt8):∀ (n:Nat) (s:List UInt8),s.length ≤ n → Lib.replaceK [c] new (Lib.count s [c]) s=zkq c new s:=by
 intro n
 induction n with
 | zero =>
  intro s hs
  obtain rfl:s=[]:=List.eq_nil_of_length_eq_zero (by omega)
  rfl
 | succ n ih =>
  intro s hs
  rcases zbo c s with ⟨h1,_,h2⟩ | ⟨k,h1,h2,_,h3⟩
  ·rw [Lib.count_miss (by rw [zdi]; exact h1),zfj c new s h2]; rfl
  ·have hi:Lib.index s [c]=k:=by rw [zdi]; exact h1
   rw [Lib.count_hit (by simp) hi,Nat.add_comm,Lib.replaceK_hit _ _ _ _ _ hi]
   have:=ih (s.drop (k + [c].length)) (by rw [List.length_drop]; simp; omega)
   rw [this]
   have hk:s[k]=c:=by rw [List.getElem?_eq_getElem h2] at h3; injection h3
   have hpre:c ∉ s.take k:=by
    intro hm
    obtain ⟨j,hj,hjc⟩:=List.mem_iff_getElem.1 hm
    have hj':j < k:=by rw [List.length_take] at hj; omega
    have:=(Lib.indexByte_some h1).2 j hj'
    rw [List.getElem_take] at hjc
    exact this (by rw [List.getElem?_eq_getElem (by omega),hjc])
   conv => rhs; rw [← List.take_append_drop k s,List.drop_eq_getElem_cons h2,hk,zeX,zfj c new _ hpre]
   show _=s.take k ++ zkq c new ([c] ++ s.drop (k + 1))
   rw [zeX]
   simp [zkq]
theorem zhs (c:UInt8) (new s:List UInt8) (h:new ≠ [c]):Lib.replaceAll s [c] new=zkq c new s:=by
 unfold Lib.replaceAll Lib.replace
 rw [if_neg (by simp; exact fun e => h e.symm)]
 unfold Lib.replaceNum
 rw [if_pos (.inl (by decide))]
 exact zjs c new s.length s (Nat.le_refl _)
theorem zkh (c:UInt8) (s:List UInt8):Lib.count s [c] ≤ s.length + 1:=Lib.count_le s [c]
theorem zfC (s:List UInt8):(zcN s).length ≤ 3 * s.length:=by
 induction s with
 | nil => exact Nat.le_refl _
 | cons x s ih =>
  unfold zcN zkq at ih ⊢
  rw [List.flatMap_cons,List.length_append,List.length_cons]
  split <;> simp only [List.length_cons,List.length_nil] <;> omega
def zbc (l:List UInt8):List UInt8:=l.flatMap fun c => if idB c=true then [c] else zc3 c
def zbE (p:List UInt8):List UInt8:=zbc (zaO p).2
def jnc (ps:List (List UInt8)):List UInt8:=ps.flatMap fun q => 58 :: zbE q
theorem id256:∀ n:Fin 256,(idB (UInt8.ofNat n.val)=true → zaQ (UInt8.ofNat n.val) zbr=true ∧ UInt8.ofNat n.val ≠ 126 ∧ UInt8.ofNat n.val ≠ 58 ∧ UInt8.ofNat n.val ≠ 37) ∧
  (zau (UInt8.ofNat n.val)=true → UInt8.ofNat n.val ≠ 126 → idB (UInt8.ofNat n.val)=true) ∧ (zau (UInt8.ofNat n.val)=false → idB (UInt8.ofNat n.val)=false) ∧
  ((zc3 (UInt8.ofNat n.val)).all (fun c => c != 126))=true ∧ (zbj (UInt8.ofNat n.val)=true → UInt8.ofNat n.val ≠ 58 ∧ idB (UInt8.ofNat n.val)=true):=by decide +kernel
theorem zd0 (c:UInt8):(idB c=true → zaQ c zbr=true ∧ c ≠ 126 ∧ c ≠ 58 ∧ c ≠ 37) ∧ (zau c=true → c ≠ 126 → idB c=true) ∧ (zau c=false → idB c=false) ∧ (zc3 c).all (fun c => c != 126)=true ∧ (zbj c=true → c ≠ 58 ∧ idB c=true):=by
 have:=id256 ⟨c.toNat,UInt8.toNat_lt c⟩
 simpa using this
theorem zcV (a b:List UInt8):zcN (a ++ b)=zcN a ++ zcN b:=zeX _ _ a b
theorem zfB {c:UInt8} (h:c ≠ 126):zcN [c]=[c]:=by simp [zcN,zkq,h]
theorem zm1 (c:UInt8):zcN (zc3 c)=zc3 c:=zfj _ _ _ (fun hm => by
 have:=List.all_eq_true.1 (zd0 c).2.2.2.1 126 hm
 simp at this)
theorem zcu (c:UInt8) (l:List UInt8):zbc (c :: l)=(if idB c=true then [c] else zc3 c) ++ zbc l:=by simp [zbc]
theorem zhG:∀ (n:Nat) (l o:List UInt8),l.length ≤ n → (rwS zcd 0 l o).1=(rwS zcd 0 l []).1 ∧ ((rwS zcd 0 l []).1=0 → (rwS zcd 0 l o).2=o ++ (rwS zcd 0 l []).2):=by
 intro n
 induction n with
 | zero =>
  intro l o hl
  obtain rfl:l=[]:=List.eq_nil_of_length_eq_zero (by omega)
  simp [rwS]
 | succ n ih =>
  intro l o hl
  cases l with
  | nil => simp [rwS]
  | cons c t =>
   by_cases hc:c=37
   ·rcases he:zbp (c :: t) with _ | _
    ·simp [rwS,hc,he,show zbp (37 :: t)=false from by rw [← hc]; exact he]
    ·obtain ⟨a,b,r,rfl⟩:=zbI he
     have hd:∀ o,rwS zcd 0 (c :: a :: b :: r) o=rwS zcd 0 r (o ++ [zcl (c :: a :: b :: r)]):=by
      intro o
      rw [rwS,if_pos hc,if_pos he]
      show (if (0:Int)=0 then rwS zcd 2 (a :: b :: r) _ else _)=_
      rw [if_pos rfl,zbF]
      rfl
     rw [hd,hd]
     have i1:=ih r (o ++ [zcl (c :: a :: b :: r)]) (by simp at hl ⊢; omega)
     have i2:=ih r ([] ++ [zcl (c :: a :: b :: r)]) (by simp at hl ⊢; omega)
     refine ⟨by rw [i1.1,i2.1],fun h => ?_⟩
     rw [i2.1] at h
     rw [i1.2 h,i2.2 h]; simp
   ·have hd:∀ o,rwS zcd 0 (c :: t) o=rwS zcd 0 t (o ++ [c]):=by
     intro o
     rw [rwS,if_neg hc]
     show (if (0:Int)=0 then rwS zcd 0 t _ else _)=_
     rw [if_pos rfl]; rfl
    rw [hd,hd]
    have i1:=ih t (o ++ [c]) (by simp at hl; omega)
    have i2:=ih t ([] ++ [c]) (by simp at hl; omega)
    refine ⟨by rw [i1.1,i2.1],fun h => ?_⟩
    rw [i2.1] at h
    rw [i1.2 h,i2.2 h]; simp
theorem zoe {c:UInt8} {t:List UInt8} (hc:c=37) (a b:UInt8) (r:List UInt8) (ht:t=a :: b :: r) (he:zbp (c :: t)=true) (o:List UInt8):rwS zcd 0 (c :: t) o=rwS zcd 0 r (o ++ [zcl (c :: t)]):=by
 subst ht
 rw [rwS,if_pos hc,if_pos he]
 show (if (0:Int)=0 then rwS zcd 2 (a :: b :: r) _ else _)=_
 rw [if_pos rfl,zbF]
 rfl
theorem zod {c:UInt8} {t:List UInt8} (hc:c ≠ 37) (o:List UInt8):rwS zcd 0 (c :: t) o=rwS zcd 0 t (o ++ [c]):=by
 rw [rwS,if_neg hc]
 show (if (0:Int)=0 then rwS zcd 0 t _ else _)=_
 rw [if_pos rfl]; rfl
def dcL (l:List UInt8):Int × List UInt8:=rwS zcd 0 l []
theorem zbT {l:List UInt8} (h:l.length ≤ 16384):zaO l=dcL l:=by unfold zaO ze6; rw [if_neg (by omega)]; rfl
theorem zdB {c:UInt8} {t:List UInt8} (hc:c ≠ 37):(dcL (c :: t)).1=(dcL t).1 ∧ ((dcL t).1=0 → (dcL (c :: t)).2=c :: (dcL t).2):=by
 unfold dcL
 rw [zod hc]
 have:=zhG t.length t ([] ++ [c]) (Nat.le_refl _)
 exact ⟨this.1,fun h => by rw [this.2 h]; rfl⟩
theorem zd4 {a b:UInt8} {r:List UInt8} (he:zbp (37 :: a :: b :: r)=true):(dcL (37 :: a :: b :: r)).1=(dcL r).1 ∧ ((dcL r).1=0 → (dcL (37 :: a :: b :: r)).2=zcl (37 :: a :: b :: r) :: (dcL r).2):=by
 unfold dcL
 rw [zoe rfl a b r rfl he]
 have:=zhG r.length r ([] ++ [zcl (37 :: a :: b :: r)]) (Nat.le_refl _)
 exact ⟨this.1,fun h => by rw [this.2 h]; rfl⟩
theorem zfV {t:List UInt8} (he:zbp (37 :: t)=false):(dcL (37 :: t)).1=2:=by
 unfold dcL
 rw [rwS,if_pos rfl,if_neg (by rw [he]; exact Bool.false_ne_true)]
theorem dcL_err:∀ (n:Nat) (l:List UInt8),l.length ≤ n → (dcL l).1=0 ∨ (dcL l).1=2:=by
 intro n
 induction n with
 | zero =>
  intro l hl
  obtain rfl:l=[]:=List.eq_nil_of_length_eq_zero (by omega)
  exact .inl rfl
 | succ n ih =>
  intro l hl
  cases l with
  | nil => exact .inl rfl
  | cons c t =>
   by_cases hc:c=37
   ·subst hc
    rcases he:zbp (37 :: t) with _ | _
    ·exact .inr (zfV he)
    ·obtain ⟨a,b,r,rfl⟩:=zbI he
     rw [(zd4 he).1]
     exact ih r (by simp at hl ⊢; omega)
   ·rw [(zdB hc).1]
    exact ih t (by simp at hl; omega)
end Go.Proofs.YtljbdpihiboeaaaGreatDoor
