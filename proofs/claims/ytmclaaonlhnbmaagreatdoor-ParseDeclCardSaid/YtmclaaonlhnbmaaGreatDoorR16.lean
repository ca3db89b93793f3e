/- What the claim needs of the texts TOperand, TGood. -/
import Derived.Test.YtmclaaonlhnbmaaGreatDoorROp
import Derived.Test.YtmclaaonlhnbmaaGreatDoorR15
namespace Go.Proofs.YtmclaaonlhnbmaaGreatDoor.T
open Go.RowKit
open Go.Lib hiding intOf
open U S L
theorem text_in {L:List TokP} {i:Nat} (h:i<L.length):textT L i=L[i].t:=by unfold textT;rw [List.getElem?_eq_getElem h]
set_option maxHeartbeats 16000000 in
set_option maxRecDepth 20000 in
theorem operand_step (d:Nat) (L:List TokP) (lv:Value) (hL:L.length≤1000000) (n:Nat) (ih:∀ m,m<n→ExprAt d L lv m):OperandAt d L lv n:=by
 intro i b w hR hT hi hn;obtain ⟨O,hO⟩:∃ O,start b i (operand L n i)=O:=⟨_,rfl⟩;have HO:=hid hO;have HI:=hid ih;rw [hO];clear hO ih;have hd:=hR.lt;obtain ⟨W1,hW1⟩:∃ W1,w.alloc zeroP=W1:=⟨_,rfl⟩
 have hb1:Below w.heap.size w W1:=by rw [← hW1];exact (Below.refl _ w).alloc (Nat.le_refl _) _
 have HM1:=hid (Mv.of_below (d:=d) hb1)
 have hq1:W1.heap[w.heap.size]?=some (.cells #[.string ⟨#[]⟩,.string ⟨#[]⟩,.int .i64 0,.int .i64 0,.slice none 0 0] 25 (0,0)):=by rw [← hW1];exact heap_alloc_new w _
 have hR1:Rd d lv i b W1:=hR.below hb1;have hT1:=hT.mv (Mv.of_below hb1) (Nat.le_refl _);have c1:=from_any d L lv i b W1 hR1 hT1;obtain ⟨fr,hfr⟩:∃ fr,fromT L i=fr:=⟨_,rfl⟩;rw [hfr] at c1;have HFR:=hid hfr;have HW1:=hid hW1;have HQ1:=hid hq1;have HR1:=hid hR1;have HT1:=hid hT1;have HT0:=hid hT;have HN:=hid hn;obtain ⟨Q,hQ⟩:∃ Q,Reads d lv O w=Q:=⟨_,rfl⟩;have HQ:=hid hQ;rw [hQ];clear hW1 hq1 hb1 hR1 hT1 hfr hn hQ hR hT
 go_enter Tryz.func163,Tryz.ntmps163
 go_wp2_with fail
 rw [HW1.out];refine c1.mono ?_;intro x w2 h2;obtain ⟨rfl,hw2⟩:=h2.went HR1.out;have HM2:=hid hw2.2;have HR2:=hid hw2.1;clear c1 h2 hw2;have c2:=comes_any d L lv i b 1 w2 HR2.out (HT1.out.mv HM2.out (Nat.le_refl _));obtain ⟨RA,hRA⟩:∃ R,(!b&&comesT L 1 i)=R:=⟨_,rfl⟩;rw [hRA] at c2;have HA:=hid hRA;clear hRA
 cases RA
 ·go_wp2_with fail
  refine c2.mono ?_;intro x w3 h3;obtain ⟨rfl,hw3⟩:=h3.went HR2.out;have HM3:=hid (HM2.out.trans (hw3.2.mono HM2.out.size));have HR3:=hid hw3.1;have c3:=comes_any d L lv i b 2 w3 HR3.out (HT1.out.mv HM3.out (Nat.le_refl _));obtain ⟨RB,hRB⟩:∃ R,(!b&&comesT L 2 i)=R:=⟨_,rfl⟩;rw [hRB] at c3;have HB:=hid hRB;clear hRB c2 h3 hw3
  cases RB
  ·go_wp2_with fail
   refine c3.mono ?_;intro x w4 h4;obtain ⟨rfl,hw4⟩:=h4.went HR3.out;have HM4:=hid (HM3.out.trans (hw4.2.mono HM3.out.size));have HR4:=hid hw4.1;have c4:=take_any d L lv i b [40] w4 HR4.out (HT1.out.mv HM4.out (Nat.le_refl _)) (by omega);rw [show bstr [40]=⟨#[40]⟩ from rfl] at c4;obtain ⟨RC,hRC⟩:∃ R,(!b&&isT L [40] i)=R:=⟨_,rfl⟩;rw [hRC] at c4;have HC:=hid hRC;clear hRC c3 h4 hw4
   cases RC
   ·obtain ⟨nm,hnm⟩:∃ u,start b i (nameT L i)=u:=⟨_,rfl⟩
    have HFst:Hid (Fol L i b (start b i (Out.ok () i:Out Unit))):=hid (.begun hi ⟨Nat.le_refl _,hi⟩);have HFnm:Hid (Fol L i b nm):=hid (by rw [← hnm];exact .begun hi (nameT_fwd hi).toFw)
    have HGnm:Hid (nm.isBad=false→nm.at=i+1∧b=false∧comesT L 0 i=true):=hid (by
     rw [← hnm]
     cases b
     ·rw [start_false]
      unfold nameT
      cases comesT L 0 i
      ·intro h;cases h
      ·exact fun _=>⟨rfl,rfl,rfl⟩
     ·intro h;cases h)
    have HOO:Hid (b=false→∃ m,n=m+1∧O=nm.next fun s j =>
      if isT L [40] j=false then part L kId s fr [] j
      else if s=kNew then (typed L m (j+1)).next fun x k=>(mustT L [41] k).next fun _ m=>part L kNew [] fr [x] m
      else if s=kMake then (typed L m (j+1)).next fun x k=>(mustT L [44] k).next fun _ q=>(expr L m 0 q).next fun e o=>(mustT L [41] o).next fun _ p=>part L kMake [] fr [x,e] p
      else if isT L [41] (j+1) then part L kCall s fr [] (j+2)
      else (args L m (j+1) []).next fun l k=>part L kCall s fr l k):=hid (by
     rintro rfl;obtain ⟨m,rfl⟩:∃ m,n=m+1:=⟨n - 1,by have:=HN.out (by trivial);omega⟩;refine ⟨m,rfl,?_⟩
     rw [← HO.out,← HFR.out,← hnm,start_false,start_false,operand_succ,if_neg (by rw [show comesT L 1 i=false by simpa using HA.out];decide),if_neg (by rw [show comesT L 2 i=false by simpa using HB.out];decide),if_neg (by rw [show isT L [40] i=false by simpa using HC.out];decide)])
    obtain ⟨sv,hsv⟩:∃ u,nameV nm=u:=⟨_,rfl⟩;have Hnm:=hid hnm;have Hsv:=hid hsv;clear hnm hsv
    go_wp2_with fail
    refine c4.mono ?_;rintro x w5 ⟨rfl,hw5⟩;have hw5:Went d lv i b w4 w5:=hw5;have HM5:=hid (HM4.out.trans (hw5.2.mono HM4.out.size));have HR5:=hid hw5.1;clear c4 hw5;have c6:=name_any10 d L lv i b w5 HR5.out (HT1.out.mv HM5.out (Nat.le_refl _)) (by have:=HFst.out.le;omega);rw [Hnm.out,Hsv.out] at c6
    go_wp2_with fail
    refine c6.mono ?_;rintro x w6 ⟨rfl,hw6⟩;have HM6:=hid (HM5.out.trans (hw6.2.mono HM5.out.size));have HR6:=hid hw6.1
    skip
    clear c6 hw6;have c7:=take_any d L lv nm.at nm.isBad [40] w6 HR6.out (HT1.out.mv HM6.out (Nat.le_refl _)) (by have:=HFnm.out.le;omega);rw [show bstr [40]=⟨#[40]⟩ from rfl] at c7;obtain ⟨RD,hRD⟩:∃ R,(!nm.isBad&&isT L [40] nm.at)=R:=⟨_,rfl⟩;rw [hRD] at c7;have HD:=hid hRD;clear hRD
    cases RD
    ·have HO2:Hid (O=nm.next fun s j=>part L kId s fr [] j):=hid (by
      cases b
      ·obtain ⟨m,rfl,h⟩:=HOO.out rfl
       rw [h];have hD:=HD.out
       cases nm with
       | bad j=>rfl
       | ok s j =>
        show (if isT L [40] j=false then _ else _)=_
        rw [if_pos (by simpa [Out.isBad,Out.at] using hD)]
        rfl
      ·have h1:=HO.out
       have h2:=Hnm.out;rw [← h1,← h2]
       rfl)
     have HAT:Hid (O.at=nm.at∧O.isBad=nm.isBad):=hid (by rw [HO2.out];exact out_name)
     have HPV:Hid (∀ {W:World} {R:Nat→Prop} (ez:Int),toT L nm.at=ez→PartV W R O (.agg #[.string ⟨#[105,100]⟩,.string sv,.int .i64 fr,.int .i64 ez,.slice none 0 0])):=hid (by
      intro ez hez;rw [HO2.out,← Hsv.out]
      exact partV_none (K:=kId) hez)
     go_wp2_with fail
     refine c7.mono ?_;rintro x wq ⟨rfl,hwq⟩;have hwq:Went d lv nm.at nm.isBad w6 wq:=hwq;have HMq:=hid (HM6.out.trans (hwq.2.mono HM6.out.size));have HRq:=hid hwq.1;have HM8:=HMq;have HR8:=HRq;clear c7 hwq;have HMZ:=HM8;have cz:=part_any d L lv nm.at nm.isBad ⟨#[105,100]⟩ sv fr none 0 0 wq HR8.out (HT1.out.mv HM8.out (Nat.le_refl _)) HFnm.out.le hL;obtain ⟨ez,hez⟩:∃ e,toT L nm.at=e:=⟨_,rfl⟩;rw [hez] at cz;have HEZ:=hid hez;clear hez
     go_wp2_with fail
     refine cz.mono ?_;rintro x w7 ⟨rfl,hw7⟩;have HM7:=hid (HMZ.out.trans (hw7.2.mono HMZ.out.size));have hqw:=(Array.getElem?_eq_some_iff.1 HQ1.out).1;have hq7:w7.heap[w.heap.size]?=_:=(HM7.out.block w.heap.size hqw (by omega)).trans HQ1.out;obtain ⟨⟨r0,r1,r2,r3,r4⟩,gz⟩:=five_cells hq7;have g0:=gz 0;have g1:=gz 1;have g2:=gz 2;have g3:=gz 3;have g4:=gz 4;have HQ7:=hid hq7;have HW7:=hid hw7;clear cz hw7 hq7 gz
     go_wp2_with fail
     have hp:=set_row5 (a':=.string ⟨#[105,100]⟩) (b':=.string sv) (c':=.int .i64 fr) (d':=.int .i64 ez) (e':=.slice none 0 0) HQ7.out;refine bodyPost_ret (v:=.agg #[.string ⟨#[105,100]⟩,.string sv,.int .i64 fr,.int .i64 ez,.slice none 0 0]) (results_cell_row rfl _ _ w.heap.size 25 #[.string ⟨#[105,100]⟩,.string sv,.int .i64 fr,.int .i64 ez,.slice none 0 0] (0,0) _ (by rfl) hp Tryz.underlying25 rfl (by kernel_rfl)) rfl ?_;rw [← HQ.out];refine reads_end hd (HM1.out.trans (HM7.out.mono HM1.out.size)) HW7.out.1 HAT.out.1 HAT.out.2 ?_ ⟨Nat.le_refl _,Nat.le_refl _⟩
     exact HPV.out _ HEZ.out
    ·have hD:nm.isBad=false∧isT L [40] nm.at=true:=by simpa using HD.out
     obtain ⟨hat,hbf,hcm⟩:=HGnm.out hD.1;subst hbf;obtain ⟨m,rfl,hOO⟩:=HOO.out rfl;have hfu:=HN.out rfl;obtain ⟨s,hs⟩:=out_ok hD.1;rw [hat] at hs hD;have hil:i+1<L.length:=isT_lt hD.2;have HSS:Hid (sv=bstr s):=hid (by rw [← Hsv.out,hs];rfl)
     have HO2:Hid (O=if s=kNew then (typed L m (i+1+1)).next fun x k=>(mustT L [41] k).next fun _ q=>part L kNew [] fr [x] q
      else if s=kMake then (typed L m (i+1+1)).next fun x k=>(mustT L [44] k).next fun _ q=>(expr L m 0 q).next fun e o=>(mustT L [41] o).next fun _ p=>part L kMake [] fr [x,e] p
      else if isT L [41] (i+1+1) then part L kCall s fr [] (i+1+2)
      else (args L m (i+1+1) []).next fun l k=>part L kCall s fr l k):=hid (by
      rw [hOO,hs]
      show (if isT L [40] (i+1)=false then _ else _)=_
      rw [if_neg (by rw [hD.2];decide)])
     have HFst2:Hid (Fol L (i+1+1) false (Out.ok () (i+1+1):Out Unit)):=hid ⟨Nat.le_refl _,hil,fun _=>rfl⟩
     go_wp2_with fail
     refine c7.mono ?_;rintro x w7 ⟨rfl,hw7⟩;have hw7:Went d lv (nm.at+1) nm.isBad w6 w7:=hw7;rw [hs] at hw7;have hw7:Went d lv (i+1+1) false w6 w7:=hw7;have HM7:=hid (HM6.out.trans (hw7.2.mono HM6.out.size));have HR7:=hid hw7.1;clear c7 hw7 hD hOO hs hat hcm
     by_cases h1:s=kNew
     ·have q1:(sv.toList==[110,101,119])=true:=by rw [HSS.out,h1,bstr_list];decide
      obtain ⟨ox,hox⟩:∃ u,start false (i+1+1) (typed L m (i+1+1))=u:=⟨_,rfl⟩;obtain ⟨om,hom⟩:∃ u,start ox.isBad ox.at (mustT L [41] ox.at)=u:=⟨_,rfl⟩
      have HO3:Hid (O=om.next fun _ q=>part L kNew [] fr [ox.pt] q):=hid (by
       rw [HO2.out,if_pos h1,← hom,← start_false (i+1+1) (typed L m (i+1+1)),hox]
       cases ox <;> rfl)
      have HFox:Hid (Fol L (i+1+1) false ox):=hid (by rw [← hox];exact .begun hil (typed_fwd m _ hil).toFw);have HFom:Hid (Fol L (i+1+1) false om):=hid (by rw [← hom];exact HFox.out.step (mustT_fwd _ HFox.out.le).toFw);have HAT:Hid (O.at=om.at∧O.isBad=om.isBad):=hid (by rw [HO3.out];exact out_unit _)
      have HPL:Hid (∀ p j,O=.ok p j→∃ K T yx0,p=.mk K T fr (toT L om.at) [yx0]∧bstr K=⟨#[110,101,119]⟩∧bstr T=⟨#[]⟩∧∃ jx0,ox=.ok yx0 jx0):=hid (by
       intro p j hpj;rw [HO3.out] at hpj;obtain ⟨h2,h3⟩:=unit_ok hpj;rw [← hom] at h2
       exact ⟨_,_,_,h3,rfl,rfl,_,out_pt (start_so h2).1⟩)
      have Hox:=hid hox;have Hom:=hid hom;clear hox hom h1;have c8:=typed_any d L lv hL m (i+1+1) false w7 HR7.out (HT1.out.mv HM7.out (Nat.le_refl _)) HFst2.out.le (fun _=>by have:=HFst2.out.ge;omega);rw [Hox.out] at c8
      go_wp2_with fail
      refine c8.mono ?_;rintro x w8 ⟨v,rfl,⟨kx0,tx0,fx0,ex0,ax0,nx0,cx0,rfl,hnnx0,hvx0⟩,hw8⟩;have HVx0:=hid hvx0;have HNNx0:=hid hnnx0;clear hnnx0;have HWx0:=hid hw8;clear c8 hvx0 hw8
      go_upto_region 19 with fail
      obtain ⟨qx0,hqx0⟩:∃ q,w8.heap.size=q:=⟨_,rfl⟩;obtain ⟨V8,hV8⟩:∃ V,w8.alloc (.cells #[.string kx0,.string tx0,.int .i64 fx0,.int .i64 ex0,.slice ax0 nx0 cx0] 25)=V:=⟨_,rfl⟩
      have hb8:Below w8.heap.size w8 V8:=by rw [← hV8];exact (Below.refl _ w8).alloc (Nat.le_refl _) _
      have HBx0:Hid (V8.heap[qx0]?=some (.cells #[.string kx0,.string tx0,.int .i64 fx0,.int .i64 ex0,.slice ax0 nx0 cx0] 25 (0,0))):=hid (by rw [← hV8,← hqx0];exact heap_alloc_new w8 _);have HSx0:Hid (Mv w8.heap.size d w8 V8):=hid (Mv.of_below hb8);have HLx0:Hid (W1.heap.size≤w7.heap.size∧w7.heap.size≤w8.heap.size∧qx0=w8.heap.size):=hid ⟨HM7.out.size,HWx0.out.2.size,hqx0.symm⟩;rw [hV8,hqx0];have HM8:=hid ((HM7.out.trans (HWx0.out.2.mono HM7.out.size)).trans ((Mv.of_below hb8).mono (Nat.le_trans HM7.out.size HWx0.out.2.size)));have HR8:=hid (HWx0.out.1.below hb8)
      skip
      clear hV8 hb8 hqx0;have HDx0_8:Hid (Mv V8.heap.size d V8 V8):=hid (Mv.refl _ _ _);have c9:=must_any d L lv ox.at ox.isBad [41] V8 HR8.out (HT1.out.mv HM8.out (Nat.le_refl _)) (by have:=HFox.out.le;omega);rw [Hom.out,show bstr [41]=⟨#[41]⟩ from rfl] at c9
      go_wp2_with fail
      refine c9.mono ?_;rintro x w9 ⟨rfl,hw9⟩;have HM9:=hid (HM8.out.trans (hw9.2.mono HM8.out.size));have HR9:=hid hw9.1;have HDx0_9:=hid (HDx0_8.out.trans (hw9.2.mono HDx0_8.out.size));clear c9 hw9;have hzx0:=(HDx0_9.out.block qx0 (Array.getElem?_eq_some_iff.1 HBx0.out).1 (by have:=HLx0.out;have:=HM1.out.size;omega)).trans HBx0.out;obtain ⟨⟨l0x0,l1x0,l2x0,l3x0,l4x0⟩,-⟩:=five_cells hzx0;have HZx0:=hid hzx0;clear hzx0;obtain ⟨z,hz⟩:∃ z,w9.heap.size=z:=⟨_,rfl⟩;obtain ⟨Z,hZ⟩:∃ Z,w9.alloc (.cells #[.string kx0,.string tx0,.int .i64 fx0,.int .i64 ex0,.slice ax0 nx0 cx0] 25)=Z:=⟨_,rfl⟩
      have hzb:Below w9.heap.size w9 Z:=by rw [← hZ];exact (Below.refl _ w9).alloc (Nat.le_refl _) _
      have HZQ:Hid (Z.heap[z]?=some (.cells #[.string kx0,.string tx0,.int .i64 fx0,.int .i64 ex0,.slice ax0 nx0 cx0] 25 (0,0))):=hid (by rw [← hZ,← hz];exact heap_alloc_new w9 _);have HMZ:=hid (HM9.out.trans ((Mv.of_below hzb).mono HM9.out.size));have HRZ:=hid (HR9.out.below hzb);have HZB:=hid (Mv.of_below (d:=d) hzb);have HZ:=hid hz;have cz:=part_any d L lv om.at om.isBad ⟨#[110,101,119]⟩ ⟨#[]⟩ fr (some ⟨z,0,none⟩) 1 1 Z HRZ.out (HT1.out.mv HMZ.out (Nat.le_refl _)) HFom.out.le hL;obtain ⟨ez,hez⟩:∃ e,toT L om.at=e:=⟨_,rfl⟩;rw [hez] at cz;have HEZ:=hid hez;rw [← hz] at cz;clear hzb hez hz
      go_wp2_with fail
      try rw [hZ]
      refine cz.mono ?_;rintro x w7 ⟨rfl,hw7⟩;have HM7:=hid (HMZ.out.trans (hw7.2.mono HMZ.out.size));have hqw:=(Array.getElem?_eq_some_iff.1 HQ1.out).1;have hq7:w7.heap[w.heap.size]?=_:=(HM7.out.block w.heap.size hqw (by omega)).trans HQ1.out;obtain ⟨⟨r0,r1,r2,r3,r4⟩,gz⟩:=five_cells hq7;have g0:=gz 0;have g1:=gz 1;have g2:=gz 2;have g3:=gz 3;have g4:=gz 4;have HQ7:=hid hq7;have HW7:=hid hw7;have HZE:=hid hZ;clear cz hw7 hq7 gz hZ l0x0 l1x0 l2x0 l3x0 l4x0
      go_wp2_with fail
      have hp:=set_row5 (a':=.string ⟨#[110,101,119]⟩) (b':=.string ⟨#[]⟩) (c':=.int .i64 fr) (d':=.int .i64 ez) (e':=.slice (some ⟨w9.heap.size,0,none⟩) 1 1) HQ7.out;refine bodyPost_ret (v:=.agg #[.string ⟨#[110,101,119]⟩,.string ⟨#[]⟩,.int .i64 fr,.int .i64 ez,.slice (some ⟨w9.heap.size,0,none⟩) 1 1]) (results_cell_row rfl _ _ w.heap.size 25 #[.string ⟨#[110,101,119]⟩,.string ⟨#[]⟩,.int .i64 fr,.int .i64 ez,.slice (some ⟨w9.heap.size,0,none⟩) 1 1] (0,0) _ (by rfl) hp Tryz.underlying25 rfl (by kernel_rfl)) rfl ?_;rw [← HQ.out];refine reads_end hd (HM1.out.trans (HM7.out.mono HM1.out.size)) HW7.out.1 HAT.out.1 HAT.out.2 ?_ ⟨Nat.le_refl _,Nat.le_refl _⟩;have hsz:=HM1.out.size;have hz7:w7.heap[z]?=_:=(HW7.out.2.block z (Array.getElem?_eq_some_iff.1 HZQ.out).1 (by have:=HM9.out.size;have:=HZ.out;omega)).trans HZQ.out;rw [HZ.out];refine partV_row hz7 (by have:=HM9.out.size;have:=HZ.out;omega) (fun p j hpj=>?_) (by omega) (Nat.le_refl _);obtain ⟨K,T,yx0,h0,hK,hT,jx0,hx0⟩:=HPL.out p j hpj;refine ⟨K,T,[yx0],by rw [← HEZ.out];exact h0,hK,hT,rfl,?_⟩;obtain ⟨ux0,kx0'⟩:=HVx0.out yx0 jx0 hx0;have sx0:Mv w8.heap.size d w8 w7:=HSx0.out.trans (((HDx0_9.out.trans (HZB.out.mono HDx0_9.out.size)).trans (HW7.out.2.mono (Nat.le_trans HDx0_9.out.size HZB.out.size))).mono HSx0.out.size);have ix0:=kx0'.later (R':=fun g=>w.heap.size<g) (sx0.still (Nat.le_refl _) (fun g hg=>by have:=HLx0.out;omega)) (fun g hg=>by have:=HLx0.out;omega)
      show PartsIn w7 _ _ ([.string kx0,.string tx0,.int .i64 fx0,.int .i64 ex0,.slice ax0 nx0 cx0]++[])
      rw [five_of ux0]
      exact ⟨_,_,rfl,ix0,rfl⟩
     ·have q1:(sv.toList==[110,101,119])=false:=by rw [HSS.out,bstr_list,beq_eq_false_iff_ne];exact h1
      by_cases h2:s=kMake
      ·have q2:(sv.toList==[109,97,107,101])=true:=by rw [HSS.out,h2,bstr_list];decide
       obtain ⟨ox,hox⟩:∃ u,start false (i+1+1) (typed L m (i+1+1))=u:=⟨_,rfl⟩;obtain ⟨oc,hoc⟩:∃ u,start ox.isBad ox.at (mustT L [44] ox.at)=u:=⟨_,rfl⟩;obtain ⟨oe,hoe⟩:∃ u,start oc.isBad oc.at (expr L m 0 oc.at)=u:=⟨_,rfl⟩;obtain ⟨om,hom⟩:∃ u,start oe.isBad oe.at (mustT L [41] oe.at)=u:=⟨_,rfl⟩
       have HO3:Hid (O=om.next fun _ q=>part L kMake [] fr [ox.pt,oe.pt] q):=hid (by
        rw [HO2.out,if_neg h1,if_pos h2,← hom,← start_false (i+1+1) (typed L m (i+1+1)),hox]
        cases ox with
        | bad j=>subst hoc;subst hoe;rfl
        | ok x j =>
         have hoc:mustT L [44] j=oc:=hoc
         show ((mustT L [44] j).next fun _ q=>(expr L m 0 q).next fun e o=>(mustT L [41] o).next fun _ p=>part L kMake [] fr [x,e] p)=_
         rw [hoc]
         cases oc with
         | bad j=>subst hoe;rfl
         | ok u k =>
          have hoe:expr L m 0 k=oe:=hoe
          show ((expr L m 0 k).next fun e o=>(mustT L [41] o).next fun _ p=>part L kMake [] fr [x,e] p)=_
          rw [hoe]
          cases oe <;> rfl)
       have HFox:Hid (Fol L (i+1+1) false ox):=hid (by rw [← hox];exact .begun hil (typed_fwd m _ hil).toFw);have HFoc:Hid (Fol L (i+1+1) false oc):=hid (by rw [← hoc];exact HFox.out.step (mustT_fwd _ HFox.out.le).toFw);have HFoe:Hid (Fol L (i+1+1) false oe):=hid (by rw [← hoe];exact HFoc.out.step ((all_fwd m).expr _ HFoc.out.le _).toFw);have HFom:Hid (Fol L (i+1+1) false om):=hid (by rw [← hom];exact HFoe.out.step (mustT_fwd _ HFoe.out.le).toFw);have HAT:Hid (O.at=om.at∧O.isBad=om.isBad):=hid (by rw [HO3.out];exact out_unit _)
       have HPL:Hid (∀ p j,O=.ok p j→∃ K T yx0 yx1,p=.mk K T fr (toT L om.at) [yx0,yx1]∧bstr K=⟨#[109,97,107,101]⟩∧bstr T=⟨#[]⟩∧∃ jx0,ox=.ok yx0 jx0∧∃ jx1,oe=.ok yx1 jx1):=hid (by
        intro p j hpj;rw [HO3.out] at hpj;obtain ⟨h2,h3⟩:=unit_ok hpj;rw [← hom] at h2;have h4:=(start_so h2).1;have h5:=h4;rw [← hoe] at h5;have h6:=(start_so h5).1;rw [← hoc] at h6
        exact ⟨_,_,_,_,h3,rfl,rfl,_,out_pt (start_so h6).1,_,out_pt h4⟩)
       have Hox:=hid hox;have Hoc:=hid hoc;have Hoe:=hid hoe;have Hom:=hid hom;clear hox hoc hoe hom h1 h2;have c8:=typed_any d L lv hL m (i+1+1) false w7 HR7.out (HT1.out.mv HM7.out (Nat.le_refl _)) HFst2.out.le (fun _=>by have:=HFst2.out.ge;omega);rw [Hox.out] at c8
       go_wp2_with fail
       refine c8.mono ?_;rintro x w8 ⟨v,rfl,⟨kx0,tx0,fx0,ex0,ax0,nx0,cx0,rfl,hnnx0,hvx0⟩,hw8⟩;have HVx0:=hid hvx0;have HNNx0:=hid hnnx0;clear hnnx0;have HWx0:=hid hw8;clear c8 hvx0 hw8
       go_upto_region 23 with fail
       obtain ⟨qx0,hqx0⟩:∃ q,w8.heap.size=q:=⟨_,rfl⟩;obtain ⟨V8,hV8⟩:∃ V,w8.alloc (.cells #[.string kx0,.string tx0,.int .i64 fx0,.int .i64 ex0,.slice ax0 nx0 cx0] 25)=V:=⟨_,rfl⟩
       have hb8:Below w8.heap.size w8 V8:=by rw [← hV8];exact (Below.refl _ w8).alloc (Nat.le_refl _) _
       have HBx0:Hid (V8.heap[qx0]?=some (.cells #[.string kx0,.string tx0,.int .i64 fx0,.int .i64 ex0,.slice ax0 nx0 cx0] 25 (0,0))):=hid (by rw [← hV8,← hqx0];exact heap_alloc_new w8 _);have HSx0:Hid (Mv w8.heap.size d w8 V8):=hid (Mv.of_below hb8);have HLx0:Hid (W1.heap.size≤w7.heap.size∧w7.heap.size≤w8.heap.size∧qx0=w8.heap.size):=hid ⟨HM7.out.size,HWx0.out.2.size,hqx0.symm⟩;rw [hV8,hqx0];have HM8:=hid ((HM7.out.trans (HWx0.out.2.mono HM7.out.size)).trans ((Mv.of_below hb8).mono (Nat.le_trans HM7.out.size HWx0.out.2.size)));have HR8:=hid (HWx0.out.1.below hb8)
       skip
       clear hV8 hb8 hqx0;have HDx0_8:Hid (Mv V8.heap.size d V8 V8):=hid (Mv.refl _ _ _);have c9:=must_any d L lv ox.at ox.isBad [44] V8 HR8.out (HT1.out.mv HM8.out (Nat.le_refl _)) (by have:=HFox.out.le;omega);rw [Hoc.out,show bstr [44]=⟨#[44]⟩ from rfl] at c9
       go_wp2_with fail
       refine c9.mono ?_;rintro x w9 ⟨rfl,hw9⟩;have HM9:=hid (HM8.out.trans (hw9.2.mono HM8.out.size));have HR9:=hid hw9.1;have HDx0_9:=hid (HDx0_8.out.trans (hw9.2.mono HDx0_8.out.size));clear c9 hw9;have c10:=HI.out m (Nat.lt_succ_self _) 0 oc.at oc.isBad w9 HR9.out (HT1.out.mv HM9.out (Nat.le_refl _)) HFoc.out.le (fun _=>by have:=HFoc.out.ge;omega);rw [Hoe.out] at c10
       go_wp2_with fail
       refine c10.mono ?_;rintro x w10 ⟨v,rfl,⟨kx1,tx1,fx1,ex1,ax1,nx1,cx1,rfl,hnnx1,hvx1⟩,hw10⟩;have HVx1:=hid hvx1;have HNNx1:=hid hnnx1;clear hnnx1;have HWx1:=hid hw10;clear c10 hvx1 hw10
       go_upto_region 25 with fail
       obtain ⟨qx1,hqx1⟩:∃ q,w10.heap.size=q:=⟨_,rfl⟩;obtain ⟨V10,hV10⟩:∃ V,w10.alloc (.cells #[.string kx1,.string tx1,.int .i64 fx1,.int .i64 ex1,.slice ax1 nx1 cx1] 25)=V:=⟨_,rfl⟩
       have hb10:Below w10.heap.size w10 V10:=by rw [← hV10];exact (Below.refl _ w10).alloc (Nat.le_refl _) _
       have HBx1:Hid (V10.heap[qx1]?=some (.cells #[.string kx1,.string tx1,.int .i64 fx1,.int .i64 ex1,.slice ax1 nx1 cx1] 25 (0,0))):=hid (by rw [← hV10,← hqx1];exact heap_alloc_new w10 _);have HSx1:Hid (Mv w10.heap.size d w10 V10):=hid (Mv.of_below hb10);have HLx1:Hid (W1.heap.size≤w9.heap.size∧w9.heap.size≤w10.heap.size∧qx1=w10.heap.size):=hid ⟨HM9.out.size,HWx1.out.2.size,hqx1.symm⟩;rw [hV10,hqx1];have HM10:=hid ((HM9.out.trans (HWx1.out.2.mono HM9.out.size)).trans ((Mv.of_below hb10).mono (Nat.le_trans HM9.out.size HWx1.out.2.size)));have HR10:=hid (HWx1.out.1.below hb10);have HDx0_10:=hid (HDx0_9.out.trans ((HWx1.out.2.trans ((Mv.of_below hb10).mono HWx1.out.2.size)).mono HDx0_9.out.size));clear hV10 hb10 hqx1;have HDx1_10:Hid (Mv V10.heap.size d V10 V10):=hid (Mv.refl _ _ _);have c11:=must_any d L lv oe.at oe.isBad [41] V10 HR10.out (HT1.out.mv HM10.out (Nat.le_refl _)) (by have:=HFoe.out.le;omega);rw [Hom.out,show bstr [41]=⟨#[41]⟩ from rfl] at c11
       go_wp2_with fail
       refine c11.mono ?_;rintro x w11 ⟨rfl,hw11⟩;have HM11:=hid (HM10.out.trans (hw11.2.mono HM10.out.size));have HR11:=hid hw11.1;have HDx0_11:=hid (HDx0_10.out.trans (hw11.2.mono HDx0_10.out.size));have HDx1_11:=hid (HDx1_10.out.trans (hw11.2.mono HDx1_10.out.size));clear c11 hw11;have hzx0:=(HDx0_11.out.block qx0 (Array.getElem?_eq_some_iff.1 HBx0.out).1 (by have:=HLx0.out;have:=HM1.out.size;omega)).trans HBx0.out;obtain ⟨⟨l0x0,l1x0,l2x0,l3x0,l4x0⟩,-⟩:=five_cells hzx0;have HZx0:=hid hzx0;clear hzx0;have hzx1:=(HDx1_11.out.block qx1 (Array.getElem?_eq_some_iff.1 HBx1.out).1 (by have:=HLx1.out;have:=HM1.out.size;omega)).trans HBx1.out;obtain ⟨⟨l0x1,l1x1,l2x1,l3x1,l4x1⟩,-⟩:=five_cells hzx1;have HZx1:=hid hzx1;clear hzx1;obtain ⟨z,hz⟩:∃ z,w11.heap.size=z:=⟨_,rfl⟩;obtain ⟨Z,hZ⟩:∃ Z,w11.alloc (.cells #[.string kx0,.string tx0,.int .i64 fx0,.int .i64 ex0,.slice ax0 nx0 cx0,.string kx1,.string tx1,.int .i64 fx1,.int .i64 ex1,.slice ax1 nx1 cx1] 25)=Z:=⟨_,rfl⟩
       have hzb:Below w11.heap.size w11 Z:=by rw [← hZ];exact (Below.refl _ w11).alloc (Nat.le_refl _) _
       have HZQ:Hid (Z.heap[z]?=some (.cells #[.string kx0,.string tx0,.int .i64 fx0,.int .i64 ex0,.slice ax0 nx0 cx0,.string kx1,.string tx1,.int .i64 fx1,.int .i64 ex1,.slice ax1 nx1 cx1] 25 (0,0))):=hid (by rw [← hZ,← hz];exact heap_alloc_new w11 _);have HMZ:=hid (HM11.out.trans ((Mv.of_below hzb).mono HM11.out.size));have HRZ:=hid (HR11.out.below hzb);have HZB:=hid (Mv.of_below (d:=d) hzb);have HZ:=hid hz;have cz:=part_any d L lv om.at om.isBad ⟨#[109,97,107,101]⟩ ⟨#[]⟩ fr (some ⟨z,0,none⟩) 2 2 Z HRZ.out (HT1.out.mv HMZ.out (Nat.le_refl _)) HFom.out.le hL;obtain ⟨ez,hez⟩:∃ e,toT L om.at=e:=⟨_,rfl⟩;rw [hez] at cz;have HEZ:=hid hez;rw [← hz] at cz;clear hzb hez hz
       go_wp2_with fail
       try rw [hZ]
       refine cz.mono ?_;rintro x w7 ⟨rfl,hw7⟩;have HM7:=hid (HMZ.out.trans (hw7.2.mono HMZ.out.size));have hqw:=(Array.getElem?_eq_some_iff.1 HQ1.out).1;have hq7:w7.heap[w.heap.size]?=_:=(HM7.out.block w.heap.size hqw (by omega)).trans HQ1.out;obtain ⟨⟨r0,r1,r2,r3,r4⟩,gz⟩:=five_cells hq7;have g0:=gz 0;have g1:=gz 1;have g2:=gz 2;have g3:=gz 3;have g4:=gz 4;have HQ7:=hid hq7;have HW7:=hid hw7;have HZE:=hid hZ;clear cz hw7 hq7 gz hZ l0x0 l1x0 l2x0 l3x0 l4x0 l0x1 l1x1 l2x1 l3x1 l4x1
       go_wp2_with fail
       have hp:=set_row5 (a':=.string ⟨#[109,97,107,101]⟩) (b':=.string ⟨#[]⟩) (c':=.int .i64 fr) (d':=.int .i64 ez) (e':=.slice (some ⟨w11.heap.size,0,none⟩) 2 2) HQ7.out;refine bodyPost_ret (v:=.agg #[.string ⟨#[109,97,107,101]⟩,.string ⟨#[]⟩,.int .i64 fr,.int .i64 ez,.slice (some ⟨w11.heap.size,0,none⟩) 2 2]) (results_cell_row rfl _ _ w.heap.size 25 #[.string ⟨#[109,97,107,101]⟩,.string ⟨#[]⟩,.int .i64 fr,.int .i64 ez,.slice (some ⟨w11.heap.size,0,none⟩) 2 2] (0,0) _ (by rfl) hp Tryz.underlying25 rfl (by kernel_rfl)) rfl ?_;rw [← HQ.out];refine reads_end hd (HM1.out.trans (HM7.out.mono HM1.out.size)) HW7.out.1 HAT.out.1 HAT.out.2 ?_ ⟨Nat.le_refl _,Nat.le_refl _⟩;have hsz:=HM1.out.size;have hz7:w7.heap[z]?=_:=(HW7.out.2.block z (Array.getElem?_eq_some_iff.1 HZQ.out).1 (by have:=HM11.out.size;have:=HZ.out;omega)).trans HZQ.out;rw [HZ.out];refine partV_row hz7 (by have:=HM11.out.size;have:=HZ.out;omega) (fun p j hpj=>?_) (by omega) (Nat.le_refl _);obtain ⟨K,T,yx0,yx1,h0,hK,hT,jx0,hx0,jx1,hx1⟩:=HPL.out p j hpj;refine ⟨K,T,[yx0,yx1],by rw [← HEZ.out];exact h0,hK,hT,rfl,?_⟩;obtain ⟨ux0,kx0'⟩:=HVx0.out yx0 jx0 hx0;have sx0:Mv w8.heap.size d w8 w7:=HSx0.out.trans (((HDx0_11.out.trans (HZB.out.mono HDx0_11.out.size)).trans (HW7.out.2.mono (Nat.le_trans HDx0_11.out.size HZB.out.size))).mono HSx0.out.size);have ix0:=kx0'.later (R':=fun g=>w.heap.size<g) (sx0.still (Nat.le_refl _) (fun g hg=>by have:=HLx0.out;omega)) (fun g hg=>by have:=HLx0.out;omega)
       obtain ⟨ux1,kx1'⟩:=HVx1.out yx1 jx1 hx1;have sx1:Mv w10.heap.size d w10 w7:=HSx1.out.trans (((HDx1_11.out.trans (HZB.out.mono HDx1_11.out.size)).trans (HW7.out.2.mono (Nat.le_trans HDx1_11.out.size HZB.out.size))).mono HSx1.out.size);have ix1:=kx1'.later (R':=fun g=>w.heap.size<g) (sx1.still (Nat.le_refl _) (fun g hg=>by have:=HLx1.out;omega)) (fun g hg=>by have:=HLx1.out;omega)
       show PartsIn w7 _ _ ([.string kx0,.string tx0,.int .i64 fx0,.int .i64 ex0,.slice ax0 nx0 cx0]++[.string kx1,.string tx1,.int .i64 fx1,.int .i64 ex1,.slice ax1 nx1 cx1]++[])
       rw [five_of ux0,five_of ux1];simp only [List.append_assoc]
       exact ⟨_,_,rfl,ix0,⟨_,_,rfl,ix1,rfl⟩⟩
      ·have q2:(sv.toList==[109,97,107,101])=false:=by rw [HSS.out,bstr_list,beq_eq_false_iff_ne];exact h2
       obtain ⟨OL,hOL⟩:∃ u,(if isT L [41] (i+1+1) then .ok [] (i+1+2) else args L m (i+1+1) [])=u:=⟨_,rfl⟩
       have HO3:Hid (O=OL.next fun ks k=>part L kCall s fr ks k):=hid (by
        rw [HO2.out,if_neg h1,if_neg h2,← hOL]
        cases isT L [41] (i+1+1) <;> rfl)
       have HAT0:Hid (O.at=OL.at∧O.isBad=OL.isBad):=hid (by rw [HO3.out];cases OL <;> exact ⟨rfl,rfl⟩)
       have HPL0:Hid (∀ p j,O=.ok p j→∃ K T ks j',p=.mk K T fr (toT L OL.at) ks∧bstr K=⟨#[99,97,108,108]⟩∧bstr T=sv∧OL=.ok ks j'):=hid (by
        intro p j hpj;rw [HO3.out] at hpj
        cases OL with
        | bad j=>cases hpj
        | ok ks k =>
         simp only [Out.next,part,Out.ok.injEq] at hpj
         exact ⟨kCall,s,ks,k,hpj.1.symm,rfl,HSS.out.symm,rfl⟩)
       obtain ⟨iP,hi0,hz0,hz1,hz2⟩:=info_partsT infoPT;have c8:=take_any d L lv (i+1+1) false [41] w7 HR7.out (HT1.out.mv HM7.out (Nat.le_refl _)) (by omega);rw [show bstr [41]=⟨#[41]⟩ from rfl] at c8;obtain ⟨R3,hR3⟩:∃ R,isT L [41] (i+1+1)=R:=⟨_,rfl⟩;rw [show (!false&&isT L [41] (i+1+1))=R3 from hR3] at c8;rw [hR3] at hOL;have HR3:=hid hR3;have HOL:=hid hOL;clear hR3 hOL h1 h2
       go_wp2_with fail
       refine c8.mono ?_;rintro x w8 ⟨rfl,hw8⟩;have HM8:=hid (HM7.out.trans (hw8.2.mono HM7.out.size))
       have HINV:Hid (LoopInv d L lv W1 OL (fun m j l=>args L m j l) (i+1+1) m R3 (.ok [] (if R3=true then i+1+1+1 else i+1+1)) (.slice none 0 0) 0 [] m w8):=hid ⟨by
         rw [← HOL.out]
         cases R3 <;> rfl,hw8.1,HM8.out,ListV.nil _ _ _,by
         show (if R3=true then i+1+1+1 else i+1+1)≤L.length
         cases hr:R3
         ·exact hil
         ·have h:=HR3.out
          rw [hr] at h
          exact isT_lt h,by
         show i+1+1≤(if R3=true then i+1+1+1 else i+1+1)
         split <;> omega,by
         show 0+1≤(if R3=true then i+1+1+1 else i+1+1)
         split <;> omega,fun h _=>by
         rw [h]
         show 8*(L.length - (i+1+1))+5≤m∧m≤m
         omega⟩
       clear c8 hw8 q1 q2
       go_wp2_with fail
       go_loopw [12,13] (fun av fv wr=>∃ (fin:Bool) (o:Out (List Pt)) (v:Value) (nn:Nat) (xs:List Value) (mm:Nat),av=v∧fv=.bool fin∧Hid (LoopInv d L lv W1 OL (fun m j l=>args L m j l) (i+1+1) m fin o v nn xs mm wr)) (fun _ _ wr=>(L.length+1 - atR d wr)*2+goodR d wr)
       case atStart=>exact ⟨R3,_,_,0,[],m,rfl,rfl,HINV⟩
       case round =>
        clear HINV;obtain ⟨fin,o,v,nn,xs,mm,rfl,rfl,HIN⟩:=hrel;obtain ⟨la,lc,hav⟩:=HIN.out.list.form;subst hav
        cases fin
        ·cases hob:o.isBad
         ·skip
          obtain ⟨l,hl⟩:=out_ok hob;obtain ⟨oa,hoa⟩:∃ u,o.at=u:=⟨_,rfl⟩;rw [hoa] at hl;subst hl;have hfu2:=HIN.out.fuel rfl rfl;have hle:oa≤L.length:=HIN.out.le;have hlo:i+1+1≤oa:=HIN.out.lo;have hcn:nn+1≤oa:=HIN.out.cnt;have hfu3:8*(L.length - oa)+5≤mm:=hfu2.1;have hfu4:mm≤m:=hfu2.2;obtain ⟨m',rfl⟩:∃ m',mm=m'+1:=⟨mm - 1,by omega⟩;obtain ⟨ob,hobb⟩:∃ u,start false oa (expr L m' 0 oa)=u:=⟨_,rfl⟩;have HFb:Hid (Fwd L oa ob):=hid (by rw [← hobb,start_false];exact (all_fwd m').expr oa hle 0)
          have HOUT:Hid (OL=ob.next fun a j=>if isT L [41] j then .ok (l++[a]) (j+1) else (mustT L [44] j).next fun _ k=>args L m' k (l++[a])):=hid (by
           have h:=HIN.out.out;rw [if_neg (by decide)] at h;rw [h,← hobb,start_false]
           exact args_succ L m' oa l)
          have HTr:=hid (HT1.out.mv HIN.out.mv (Nat.le_refl _));have HRr:Hid (Rd d lv oa false wr):=hid HIN.out.rd;have HLr:Hid (ListV W1.heap.size (.ok l oa) (.slice la nn lc) nn xs wr):=hid HIN.out.list;have HMr:=hid HIN.out.mv;have HAT0:Hid (atR d wr=oa):=hid HRr.out.at;have HGT0:Hid (goodR d wr=1):=hid HRr.out.good;have cb:=HI.out m' (by omega) 0 oa false wr HRr.out HTr.out hle (fun _=>by omega);rw [hobb] at cb;have Hobb:=hid hobb;have k2:=HRr.out.c2;clear hobb hfu2 hob hoa
          go_wp2_with fail
          refine cb.mono ?_;rintro x v5 ⟨v,rfl,⟨kb,tb,fb,eb,ab,nb,cb',rfl,hnb,hvb⟩,hw5⟩;have hLx:ListV W1.heap.size (.ok l oa) (.slice la nn lc) nn xs (v5.alloc (.cells #[.string kb,.string tb,.int .i64 fb,.int .i64 eb,.slice ab nb cb'] 25)):=(HLr.out.mv hw5.2 (by have:=HM1.out.size;omega)).mv (Mv.of_below (d:=d) ((Below.refl _ v5).alloc (Nat.le_refl _) _)) (by have:=HM1.out.size;omega);have hbx:Below v5.heap.size v5 (v5.alloc (.cells #[.string kb,.string tb,.int .i64 fb,.int .i64 eb,.slice ab nb cb'] 25)):=(Below.refl _ v5).alloc (Nat.le_refl _) _
          have hsx:W1.heap.size≤(v5.alloc (.cells #[.string kb,.string tb,.int .i64 fb,.int .i64 eb,.slice ab nb cb'] 25)).heap.size:=by have:=hw5.2.size;have:=HMr.out.size;have:=hbx.size;omega
          have HVB:=hid hvb;have HW5:=hid hw5;have HLx:=hid hLx;have HBx:=hid hbx;clear cb hvb hw5 hLx hbx hnb k2
          go_wp2_with (at_builtin;refine wpList_append_own_at _ rfl _ _ 23 rfl W1.heap.size 25 iP _ 5 72 Tryz.underlying23 hi0 hz0 hz1 hz2 rfl (by decide) _ nn xs rfl HLx.out.own ⟨v5.heap.size,0,none⟩ 1 1 [.string kb,.string tb,.int .i64 fb,.int .i64 eb,.slice ab nb cb'] rfl rfl (row_news (heap_alloc_new v5 _)) one_part (by unfold maxLen;omega) (by omega) hsx ?_)
          intro v' w7 hown hgrow _ hrow0
          have hrow:v'.ownBlock=(Value.slice la nn lc).ownBlock∨v'.ownBlock=some (v5.alloc (.cells #[.string kb,.string tb,.int .i64 fb,.int .i64 eb,.slice ab nb cb'] 25)).heap.size:=by simpa using hrow0
          clear hrow0
          have HL7:Hid (∀ o':Out (List Pt),(∀ l' j',o'=.ok l' j'→∃ p jp,ob=.ok p jp∧l'=l++[p])→ListV W1.heap.size o' v' (nn+1) (xs++[.string kb,.string tb,.int .i64 fb,.int .i64 eb,.slice ab nb cb']) w7):=hid (fun o' ho'=>HLx.out.snoc HLr.out (Nat.le_refl _) HMr.out.size HVB.out HBx.out hown hgrow hrow (fun l' j' hl'=>by
           obtain ⟨p,jp,h1,h2⟩:=ho' l' j' hl'
           exact ⟨l,oa,p,jp,rfl,h1,h2⟩))
          have hown1:∀ k,(Value.slice la nn lc).ownBlock=some k→W1.heap.size≤k:=fun k hk=>(HLx.out.own.lt k hk).1
          have hd1:d<W1.heap.size:=by have:=HM1.out.size;omega
          have HR7:Hid (Rd d lv ob.at ob.isBad w7):=hid (by
           have h:=HW5.out.1.below HBx.out
           exact (hgrow.block d h.lt (fun h'=>by have:=hown1 d h'.symm;omega)).trans h)
          have HM7:Hid (Mv W1.heap.size d W1 w7):=hid (HMr.out.trans ((HW5.out.2.mono HMr.out.size).trans (((Mv.of_below HBx.out).mono (by have:=HW5.out.2.size;have:=HMr.out.size;omega)).trans ⟨hgrow.os,hgrow.tape,hgrow.output,hgrow.size,fun k hk _=>hgrow.block k (by omega) (fun h'=>by have:=hown1 k h'.symm;omega)⟩)));have c8:=take_any d L lv ob.at ob.isBad [41] w7 HR7.out (HT1.out.mv HM7.out (Nat.le_refl _)) (by have:=HFb.out.le;omega);rw [show bstr [41]=⟨#[41]⟩ from rfl] at c8;obtain ⟨R9,hR9⟩:∃ R,(!ob.isBad&&isT L [41] ob.at)=R:=⟨_,rfl⟩;rw [hR9] at c8;have H9:=hid hR9;clear hown hgrow hrow hown1 hd1 hR9 hsx
          cases R9
          ·obtain ⟨om,hom⟩:∃ u,start ob.isBad ob.at (mustT L [44] ob.at)=u:=⟨_,rfl⟩
           have HFm:Hid (ob.at≤om.at∧om.at≤L.length∧(om.isBad=false→ob.isBad=false∧ob.at<om.at)):=hid (by
            rw [← hom]
            cases hb:ob.isBad
            ·exact ⟨(mustT_fwd _ HFb.out.le).ge,(mustT_fwd _ HFb.out.le).le,fun h=>⟨rfl,(mustT_fwd _ HFb.out.le).gt h⟩⟩
            ·exact ⟨Nat.le_refl _,HFb.out.le,fun h=>by cases h⟩)
           have HO2:Hid (OL=(om.next fun _ k=>Out.ok (l++[ob.pt]) k).next fun acc k=>args L m' k acc):=hid (by
            rw [HOUT.out,next_next,← hom];have h9:=H9.out
            cases ob with
            | bad j=>rfl
            | ok a j =>
             have h9:isT L [41] j=false:=by simpa [Out.isBad,Out.at] using h9
             show (if isT L [41] j=true then _ else _)=_
             rw [if_neg (by rw [h9];decide)]
             rfl)
           have HO3:Hid ((om.next fun _ k=>Out.ok (l++[ob.pt]) k).at=om.at∧(om.next fun _ k=>Out.ok (l++[ob.pt]) k).isBad=om.isBad):=hid (by cases om <;> exact ⟨rfl,rfl⟩)
           have HL8:Hid (ListV W1.heap.size (om.next fun _ k=>Out.ok (l++[ob.pt]) k) v' (nn+1) (xs++[.string kb,.string tb,.int .i64 fb,.int .i64 eb,.slice ab nb cb']) w7):=hid (HL7.out _ (fun l' j' hl'=>by
            cases om with
            | bad k=>cases hl'
            | ok u k =>
             cases hl'
             exact ⟨ob.pt,ob.at,out_pt (HFm.out.2.2 rfl).1,rfl⟩))
           have Hom:=hid hom;clear hom
           go_wp2_with fail
           refine c8.mono ?_;rintro x w8 ⟨rfl,hw8⟩;have hw8:Went d lv ob.at ob.isBad w7 w8:=hw8;have HM8:=hid (HM7.out.trans (hw8.2.mono HM7.out.size));have c9:=must_any d L lv ob.at ob.isBad [44] w8 hw8.1 (HT1.out.mv HM8.out (Nat.le_refl _)) (by have:=HFb.out.le;omega);rw [Hom.out,show bstr [44]=⟨#[44]⟩ from rfl] at c9;have HW8:=hid hw8;clear c8 hw8
           go_wp2_with fail
           refine c9.mono ?_;rintro x w9 ⟨rfl,hw9⟩;have HM9:=hid (HM8.out.trans (hw9.2.mono HM8.out.size))
           have HIN2:Hid (LoopInv d L lv W1 OL (fun m j l=>args L m j l) (i+1+1) (m) false (om.next fun _ k=>Out.ok (l++[ob.pt]) k) v' (nn+1) (xs++[.string kb,.string tb,.int .i64 fb,.int .i64 eb,.slice ab nb cb']) m' w9):=hid ⟨by rw [if_neg (by decide)];exact HO2.out,by rw [HO3.out.1,HO3.out.2];exact hw9.1,HM9.out,(HL8.out.mv HW8.out.2 (by have:=HM1.out.size;omega)).mv hw9.2 (by have:=HM1.out.size;omega),by rw [HO3.out.1];exact HFm.out.2.1,by rw [HO3.out.1];have:=HFm.out.1;have:=HFb.out.ge;omega,by
            rw [HO3.out.1,HO3.out.2];have h1:=HFm.out.1;have h2:=HFb.out.ge
            cases hb:om.isBad
            ·have h3:=HFm.out.2.2 hb
             have h4:=HFb.out.gt h3.1;rw [if_neg (by decide)];omega
            ·rw [if_pos rfl];omega,fun _ hb=>by
            rw [HO3.out.2] at hb;rw [HO3.out.1];have h3:=HFm.out.2.2 hb;have h4:=HFb.out.gt h3.1;have h5:=HFm.out.2.1
            omega⟩
           have HMS:Hid (atR d w9=om.at∧goodR d w9=if om.isBad then 0 else 1):=hid ⟨hw9.1.at,hw9.1.good⟩;clear c9 hw9
           go_wp2_with fail
           go_roundw
           case rel=>exact ⟨false,_,_,_,_,m',rfl,rfl,HIN2⟩
           case measure =>
            rw [HMS.out.1,HMS.out.2,HAT0.out,HGT0.out];have h1:=HFm.out.1;have h2:=HFb.out.ge
            cases hb:om.isBad
            ·have h3:=HFm.out.2.2 hb
             have h4:=HFb.out.gt h3.1;rw [if_neg (by decide)];omega
            ·rw [if_pos rfl];omega
          ·have hb9:ob.isBad=false∧isT L [41] ob.at=true:=by simpa using H9.out
           have hlt9:ob.at<L.length:=isT_lt hb9.2
           have HO2:Hid (OL=.ok (l++[ob.pt]) (ob.at+1)):=hid (by
            rw [HOUT.out]
            cases ob with
            | bad j=>cases hb9.1
            | ok a j =>
             show (if isT L [41] j=true then _ else _)=_
             rw [if_pos (show isT L [41] j=true from hb9.2)];rfl)
           have HL8:Hid (ListV W1.heap.size (Out.ok (l++[ob.pt]) (ob.at+1)) v' (nn+1) (xs++[.string kb,.string tb,.int .i64 fb,.int .i64 eb,.slice ab nb cb']) w7):=hid (HL7.out _ (fun l' j' hl'=>by
            cases hl'
            exact ⟨ob.pt,ob.at,out_pt hb9.1,rfl⟩))
           have HB9:=hid hb9;have HLT9:=hid hlt9;clear hb9 hlt9
           go_wp2_with fail
           refine c8.mono ?_;rintro x w8 ⟨rfl,hw8⟩;have hw8:Went d lv (ob.at+1) ob.isBad w7 w8:=hw8;rw [HB9.out.1] at hw8;have HM8:=hid (HM7.out.trans (hw8.2.mono HM7.out.size));have HIN2:Hid (LoopInv d L lv W1 OL (fun m j l=>args L m j l) (i+1+1) (m) true (Out.ok (l++[ob.pt]) (ob.at+1)) v' (nn+1) (xs++[.string kb,.string tb,.int .i64 fb,.int .i64 eb,.slice ab nb cb']) m' w8):=hid ⟨by rw [if_pos rfl];exact HO2.out,hw8.1,HM8.out,HL8.out.mv hw8.2 (by have:=HM1.out.size;omega),HLT9.out,by show i+1+1≤ob.at+1;have:=HFb.out.ge;omega,by show nn+1+1≤ob.at+1;have:=HFb.out.gt HB9.out.1;omega,fun h=>by cases h⟩;have HMS:Hid (atR d w8=ob.at+1∧goodR d w8=1):=hid ⟨hw8.1.at,hw8.1.good⟩;clear c8 hw8
           go_wp2_with fail
           go_roundw
           case rel=>exact ⟨true,_,_,_,_,m',rfl,rfl,HIN2⟩
           case measure =>
            rw [HMS.out.1,HMS.out.2,HAT0.out,HGT0.out];have h2:=HFb.out.ge
            omega
         ·have hox:OL=o:=by
           rw [HIN.out.out,if_neg (by decide)]
           cases o with
           | ok a j=>cases hob
           | bad j=>rfl
          have hc2:=HIN.out.rd.c2;rw [hob] at hc2;subst hox;have HAT:=HAT0;have HPLL:=HPL0;have cz:=part_any d L lv OL.at OL.isBad ⟨#[99,97,108,108]⟩ sv fr la nn lc wr HIN.out.rd (HT1.out.mv HIN.out.mv (Nat.le_refl _)) HIN.out.le hL;obtain ⟨ez,hez⟩:∃ u,toT L OL.at=u:=⟨_,rfl⟩;rw [hez] at cz;have HEZ:=hid hez;clear hez
          go_wp2_with fail
          refine cz.mono ?_;rintro x wq ⟨rfl,hwq⟩;have HMq:=hid (HIN.out.mv.trans (hwq.2.mono HIN.out.mv.size));have HWq:=hid hwq;have hqw:=(Array.getElem?_eq_some_iff.1 HQ1.out).1;have hq7:wq.heap[w.heap.size]?=_:=(HMq.out.block w.heap.size hqw (by omega)).trans HQ1.out;obtain ⟨⟨r0,r1,r2,r3,r4⟩,gz⟩:=five_cells hq7;have g0:=gz 0;have g1:=gz 1;have g2:=gz 2;have g3:=gz 3;have g4:=gz 4;have HQ7:=hid hq7;clear cz hwq hq7 gz
          go_wp2_with fail
          have hp:=set_row5 (a':=.string ⟨#[99,97,108,108]⟩) (b':=.string sv) (c':=.int .i64 fr) (d':=.int .i64 ez) (e':=.slice la nn lc) HQ7.out;refine bodyPost_ret (v:=.agg #[.string ⟨#[99,97,108,108]⟩,.string sv,.int .i64 fr,.int .i64 ez,.slice la nn lc]) (results_cell_row rfl _ _ w.heap.size 25 #[.string ⟨#[99,97,108,108]⟩,.string sv,.int .i64 fr,.int .i64 ez,.slice la nn lc] (0,0) _ (by rfl) hp Tryz.underlying25 rfl (by kernel_rfl)) rfl ?_;rw [← HQ.out];refine reads_end hd (HM1.out.trans (HMq.out.mono HM1.out.size)) HWq.out.1 HAT.out.1 HAT.out.2 ?_ ⟨Nat.le_refl _,Nat.le_refl _⟩;refine partV_list (HIN.out.list.mv HWq.out.2 (by omega)) (fun g hg=>by omega) (by have h1:=HIN.out.cnt;have h2:=HIN.out.le;split at h1 <;> omega) (fun p j hpj=>?_);rw [← HEZ.out]
          exact HPLL.out p j hpj
        ·have hox:OL=o:=HIN.out.out
         subst hox;have HAT:=HAT0;have HPLL:=HPL0;have cz:=part_any d L lv OL.at OL.isBad ⟨#[99,97,108,108]⟩ sv fr la nn lc wr HIN.out.rd (HT1.out.mv HIN.out.mv (Nat.le_refl _)) HIN.out.le hL;obtain ⟨ez,hez⟩:∃ u,toT L OL.at=u:=⟨_,rfl⟩;rw [hez] at cz;have HEZ:=hid hez;clear hez
         go_wp2_with fail
         refine cz.mono ?_;rintro x wq ⟨rfl,hwq⟩;have HMq:=hid (HIN.out.mv.trans (hwq.2.mono HIN.out.mv.size));have HWq:=hid hwq;have hqw:=(Array.getElem?_eq_some_iff.1 HQ1.out).1;have hq7:wq.heap[w.heap.size]?=_:=(HMq.out.block w.heap.size hqw (by omega)).trans HQ1.out;obtain ⟨⟨r0,r1,r2,r3,r4⟩,gz⟩:=five_cells hq7;have g0:=gz 0;have g1:=gz 1;have g2:=gz 2;have g3:=gz 3;have g4:=gz 4;have HQ7:=hid hq7;clear cz hwq hq7 gz
         go_wp2_with fail
         have hp:=set_row5 (a':=.string ⟨#[99,97,108,108]⟩) (b':=.string sv) (c':=.int .i64 fr) (d':=.int .i64 ez) (e':=.slice la nn lc) HQ7.out;refine bodyPost_ret (v:=.agg #[.string ⟨#[99,97,108,108]⟩,.string sv,.int .i64 fr,.int .i64 ez,.slice la nn lc]) (results_cell_row rfl _ _ w.heap.size 25 #[.string ⟨#[99,97,108,108]⟩,.string sv,.int .i64 fr,.int .i64 ez,.slice la nn lc] (0,0) _ (by rfl) hp Tryz.underlying25 rfl (by kernel_rfl)) rfl ?_;rw [← HQ.out];refine reads_end hd (HM1.out.trans (HMq.out.mono HM1.out.size)) HWq.out.1 HAT.out.1 HAT.out.2 ?_ ⟨Nat.le_refl _,Nat.le_refl _⟩;refine partV_list (HIN.out.list.mv HWq.out.2 (by omega)) (fun g hg=>by omega) (by have h1:=HIN.out.cnt;have h2:=HIN.out.le;split at h1 <;> omega) (fun p j hpj=>?_);rw [← HEZ.out]
         exact HPLL.out p j hpj
   ·have hb:b=false∧isT L [40] i=true:=by simpa using HC.out
    obtain ⟨rfl,his⟩:=hb;have hil:i<L.length:=isT_lt his;obtain ⟨m,rfl⟩:∃ m,n=m+1:=⟨n - 1,by have:=HN.out (by trivial);omega⟩;have hfu:=HN.out rfl;obtain ⟨ob,hob⟩:∃ u,start false (i+1) (expr L m 0 (i+1))=u:=⟨_,rfl⟩;obtain ⟨om,hom⟩:∃ u,start ob.isBad ob.at (mustT L [41] ob.at)=u:=⟨_,rfl⟩
    have HOO:Hid (O=ob.next fun e j=>(mustT L [41] j).next fun _ k=>.ok e k):=hid (by
     rw [← HO.out,← hob,start_false,start_false,operand_succ,if_neg (by rw [show comesT L 1 i=false by simpa using HA.out];decide),if_neg (by rw [show comesT L 2 i=false by simpa using HB.out];decide),if_pos his])
    have HFst:Hid (Fol L (i+1) false (Out.ok () (i+1):Out Unit)):=hid ⟨Nat.le_refl _,hil,fun _=>rfl⟩;have HFob:Hid (Fol L (i+1) false ob):=hid (by rw [← hob];exact .begun hil ((all_fwd m).expr _ hil _).toFw);have HFom:Hid (Fol L (i+1) false om):=hid (by rw [← hom];exact HFob.out.step (mustT_fwd _ HFob.out.le).toFw)
    have HAT:Hid (O.at=om.at∧O.isBad=om.isBad):=hid (by
     rw [HOO.out,← hom]
     cases ob with
     | bad j=>exact ⟨rfl,rfl⟩
     | ok x j =>
      show ((mustT L [41] j).next fun _ k=>Out.ok x k).at=(mustT L [41] j).at∧((mustT L [41] j).next fun _ k=>Out.ok x k).isBad=(mustT L [41] j).isBad
      cases mustT L [41] j <;> exact ⟨rfl,rfl⟩)
    have HPO:Hid (∀ p j,O=.ok p j→∃ j',ob=.ok p j'):=hid (by
     intro p j hpj;rw [HOO.out] at hpj
     cases ob with
     | bad j=>cases hpj
     | ok x j' =>
      refine ⟨j',?_⟩;have hpj:((mustT L [41] j').next fun _ k=>Out.ok x k)=.ok p j:=hpj
      cases hm:mustT L [41] j' with
      | bad k=>rw [hm] at hpj;cases hpj
      | ok a k=>rw [hm] at hpj;cases hpj;rfl)
    have Hob:=hid hob;have Hom:=hid hom;clear hob hom his
    go_wp2_with fail
    refine c4.mono ?_;rintro x w5 ⟨rfl,hw5⟩;have hw5:Went d lv (i+1) false w4 w5:=hw5;have HM5:=hid (HM4.out.trans (hw5.2.mono HM4.out.size));have HR5:=hid hw5.1;clear c4 hw5;have c6:=HI.out m (Nat.lt_succ_self _) 0 (i+1) false w5 HR5.out (HT1.out.mv HM5.out (Nat.le_refl _)) HFst.out.le (fun _=>by have:=HFst.out.ge;omega);rw [Hob.out] at c6
    go_wp2_with fail
    refine c6.mono ?_;rintro x w6 ⟨v,rfl,⟨kx0,tx0,fx0,ex0,ax0,nx0,cx0,rfl,hnnx0,hvx0⟩,hw6⟩;have HVx0:=hid hvx0;have HNNx0:=hid hnnx0;clear hnnx0;have HWx0:=hid hw6;clear c6 hvx0 hw6
    go_upto_region 11 with fail
    obtain ⟨qx0,hqx0⟩:∃ q,w6.heap.size=q:=⟨_,rfl⟩;obtain ⟨V6,hV6⟩:∃ V,w6.alloc (.cells #[.string kx0,.string tx0,.int .i64 fx0,.int .i64 ex0,.slice ax0 nx0 cx0] 25)=V:=⟨_,rfl⟩
    have hb6:Below w6.heap.size w6 V6:=by rw [← hV6];exact (Below.refl _ w6).alloc (Nat.le_refl _) _
    have HBx0:Hid (V6.heap[qx0]?=some (.cells #[.string kx0,.string tx0,.int .i64 fx0,.int .i64 ex0,.slice ax0 nx0 cx0] 25 (0,0))):=hid (by rw [← hV6,← hqx0];exact heap_alloc_new w6 _);have HSx0:Hid (Mv w6.heap.size d w6 V6):=hid (Mv.of_below hb6);have HLx0:Hid (W1.heap.size≤w5.heap.size∧w5.heap.size≤w6.heap.size∧qx0=w6.heap.size):=hid ⟨HM5.out.size,HWx0.out.2.size,hqx0.symm⟩;rw [hV6,hqx0];have HM6:=hid ((HM5.out.trans (HWx0.out.2.mono HM5.out.size)).trans ((Mv.of_below hb6).mono (Nat.le_trans HM5.out.size HWx0.out.2.size)));have HR6:=hid (HWx0.out.1.below hb6)
    skip
    clear hV6 hb6 hqx0;have HDx0_6:Hid (Mv V6.heap.size d V6 V6):=hid (Mv.refl _ _ _);have c7:=must_any d L lv ob.at ob.isBad [41] V6 HR6.out (HT1.out.mv HM6.out (Nat.le_refl _)) (by have:=HFob.out.le;omega);rw [Hom.out,show bstr [41]=⟨#[41]⟩ from rfl] at c7
    go_wp2_with fail
    refine c7.mono ?_;rintro x w7 ⟨rfl,hw7⟩;have HM7:=hid (HM6.out.trans (hw7.2.mono HM6.out.size));have HR7:=hid hw7.1;have HDx0_7:=hid (HDx0_6.out.trans (hw7.2.mono HDx0_6.out.size));clear c7 hw7;have hzx0:=(HDx0_7.out.block qx0 (Array.getElem?_eq_some_iff.1 HBx0.out).1 (by have:=HLx0.out;have:=HM1.out.size;omega)).trans HBx0.out;obtain ⟨⟨l0x0,l1x0,l2x0,l3x0,l4x0⟩,-⟩:=five_cells hzx0;clear hzx0;have hqw:=(Array.getElem?_eq_some_iff.1 HQ1.out).1;have hq7:w7.heap[w.heap.size]?=_:=(HM7.out.block w.heap.size hqw (by omega)).trans HQ1.out;obtain ⟨⟨r0,r1,r2,r3,r4⟩,gz⟩:=five_cells hq7;have g0:=gz 0;have g1:=gz 1;have g2:=gz 2;have g3:=gz 3;have g4:=gz 4;have HQ7:=hid hq7;clear gz hq7
    go_wp2_with fail
    have hp:=set_row5 (a':=.string kx0) (b':=.string tx0) (c':=.int .i64 fx0) (d':=.int .i64 ex0) (e':=.slice ax0 nx0 cx0) HQ7.out;refine bodyPost_ret (v:=.agg #[.string kx0,.string tx0,.int .i64 fx0,.int .i64 ex0,.slice ax0 nx0 cx0]) (results_cell_row rfl _ _ w.heap.size 25 #[.string kx0,.string tx0,.int .i64 fx0,.int .i64 ex0,.slice ax0 nx0 cx0] (0,0) _ (by rfl) hp Tryz.underlying25 rfl (by kernel_rfl)) rfl ?_;rw [← HQ.out];refine reads_end hd (HM1.out.trans (HM7.out.mono HM1.out.size)) HR7.out HAT.out.1 HAT.out.2 ?_ ⟨Nat.le_refl _,Nat.le_refl _⟩;have hsz:=HM1.out.size;refine ⟨_,_,_,_,_,_,_,rfl,HNNx0.out,fun p j hpj=>?_⟩;obtain ⟨j',hj'⟩:=HPO.out p j hpj;obtain ⟨u1,u2⟩:=HVx0.out p j' hj';refine ⟨u1,?_⟩;have s1:Mv w6.heap.size d w6 w7:=HSx0.out.trans (HDx0_7.out.mono HSx0.out.size)
    exact u2.later (R':=fun g=>w.heap.size<g) (s1.still (Nat.le_refl _) (fun g hg=>by have:=HLx0.out;omega)) (fun g hg=>by have:=HLx0.out;omega)
  ·skip
   have hb:b=false∧comesT L 2 i=true:=by simpa using HB.out
   obtain ⟨rfl,his⟩:=hb;have hil:i<L.length:=comesT_lt his;obtain ⟨m,rfl⟩:∃ m,n=m+1:=⟨n - 1,by have:=HN.out (by trivial);omega⟩
   have HOO:Hid (O=part L kStr (textT L i) fr [] (i+1)):=hid (by
    rw [← HO.out,← HFR.out,start_false,operand_succ,if_neg (by rw [show comesT L 1 i=false by simpa using HA.out];decide),if_pos his])
   have h2:comesT L 2 i=true:=his
   go_wp2_with fail
   refine c3.mono ?_;intro x w4 h4;obtain ⟨rfl,hw4⟩:=h4.went HR3.out;have HM4:=hid (HM3.out.trans (hw4.2.mono HM3.out.size));have HR4:=hid hw4.1;have c4:=comes_any d L lv i false 2 w4 HR4.out (HT1.out.mv HM4.out (Nat.le_refl _));rw [h2] at c4;clear c3 h4 hw4 his h2
   go_wp2_with fail
   refine c4.mono ?_;intro x w9 h4;obtain ⟨rfl,hw4⟩:=h4.went HR4.out;have HM9:=hid (HM4.out.trans (hw4.2.mono HM4.out.size));have HR9:=hid hw4.1;have k1:=HR9.out.c1;have f1:=HR9.out.f1;have e1:IntKind.i64.wrap ((i:Int)+1)=(i:Int)+1:=IntWalk.i64_in _ (by omega);obtain ⟨W10,hW10⟩:∃ W,w9.setCell ⟨d,1,none⟩ (.int .i64 ((i:Int)+1))=W:=⟨_,rfl⟩
   have hR10:Rd d lv (i+1) false W10:=by rw [← hW10];exact HR9.out.set1 ((i:Int)+1) (by simp)
   have hM10:Mv W1.heap.size d W1 W10:=by rw [← hW10];exact HM9.out.trans ((Mv.refl _ _ _).setCell 1 _)
   have HR10:=hid hR10;have HM10:=hid hM10;clear c4 h4 hw4 hR10 hM10
   go_upto_region 7 with fail
   try rw [hW10]
   have hd10:W10.drew.heap[d]?=some (.cells #[lv,.int .i64 ((i:Int)+1),.bool false] 44 (0,0)):=HR10.out;have hT10:=HT1.out.mv HM10.out (Nat.le_refl _);obtain ⟨g,off,cap,hlv,hgd,t0,t1,t2,t3⟩:=tk_word (i:=i) hT10 hil
   have hg10:W10.drew.cell? ⟨g,off+i*4+1,none⟩=some (.string (bstr (textT L i))):=by rw [text_in hil];exact t1
   have hgw:g≠w.heap.size:=by
    obtain ⟨la,cap',h1,h2⟩:=HT0.out
    rcases h2 with h2|⟨g',off',h3,_,h5,_⟩
    ·rw [h2] at hil;exact absurd hil (Nat.not_lt_zero _)
    ·rw [hlv,h3] at h1
     injection h1 with h1
     injection h1 with h1
     injection h1 with h1
     omega
   have hgz:g<W10.drew.heap.size:=World.block_lt_of_cell? _ _ hg10;have HTV:Hid (Tk d L lv W10.drew):=hid hT10;have HRV:Hid (Rd d lv (i+1) false W10.drew):=hid HR10.out;have HMV:Hid (Mv W1.heap.size d W1 W10.drew):=hid (HM10.out.drewN 1);obtain ⟨tx,htx⟩:∃ u,bstr (textT L i)=u:=⟨_,rfl⟩;rw [htx] at hg10;have HTX:=hid htx;rw [hlv] at hd10;obtain ⟨ln,hln⟩:∃ u,L.length=u:=⟨_,rfl⟩;rw [hln] at hd10 hil;have HLN:=hid hln;have HGZ:=hid hgz;have HLV:=hid hlv
   have e2:IntKind.i64.wrap ((i:Int)+1 - 1)=(i:Int):=by rw [show (i:Int)+1 - 1=(i:Int) by omega];exact IntWalk.i64_in _ (by omega)
   have e3:IntKind.i64.wrap (i:Int)=(i:Int):=IntWalk.i64_in _ (by omega);obtain ⟨V,hV⟩:∃ V,W10.drew=V:=⟨_,rfl⟩;clear t0 t1 t2 t3 hT10 k1 f1 e1 hW10 htx hln hgz hlv;refine wp_region_held_drew (S:=fun X=>X.heap[d]?=some (.cells #[.slice (some ⟨g,off,none⟩) ln cap,.int .i64 ((i:Int)+1),.bool false] 44 (0,0))∧X.cell? ⟨g,off+i*4+1,none⟩=some (.string tx)) (by kernel_rfl) ⟨hd10,hg10⟩ (fun hHeld=>?_);clear hd10 hg10;rw [hV] at hHeld HTV HRV HMV HGZ ⊢;clear hV;refine wpAnyH_take (i:=0) (oi:=OP.p53) (v:=.pointer (some ⟨d,0,none⟩)) rfl (by kernel_rfl) (by kernel_rfl) (by kernel_rfl) (fun _ _ _ h=>h) (Or.inl ⟨by rfl,fun X hX=>rfl⟩) hHeld ?_
   (try simp only [Act.put,OP.a,OP.b,OP.c])
   refine wpAnyH_take (i:=1) (oi:=OP.p54) (v:=.string ⟨#[115,116,114]⟩) rfl (by kernel_rfl) (by kernel_rfl) (by kernel_rfl) (fun _ _ _ h=>h) (Or.inl ⟨by rfl,fun X hX=>rfl⟩) hHeld ?_
   (try simp only [Act.put,OP.a,OP.b,OP.c])
   refine wpAnyH_take (i:=2) (oi:=OP.p55) (v:=.pointer (some ⟨d,0,none⟩)) rfl (by kernel_rfl) (by kernel_rfl) (by kernel_rfl) (fun _ _ _ h=>h) (Or.inl ⟨by rfl,fun X hX=>rfl⟩) hHeld ?_
   (try simp only [Act.put,OP.a,OP.b,OP.c])
   refine wpAnyH_take (i:=3) (oi:=OP.p56) (v:=.pointer (some ⟨d,0,none⟩)) rfl (by kernel_rfl) (by kernel_rfl) (by kernel_rfl) (fun _ _ _ h=>h) (Or.inl ⟨by rfl,fun X hX=>rfl⟩) hHeld ?_
   (try simp only [Act.put,OP.a,OP.b,OP.c])
   refine wpAnyH_take (i:=4) (oi:=OP.p57) (v:=.pointer (some ⟨d,0,none⟩)) rfl (by kernel_rfl) (by kernel_rfl) (by kernel_rfl) (fun _ _ _ h=>h) (Or.inl ⟨by rfl,fun X hX=>rfl⟩) hHeld ?_
   (try simp only [Act.put,OP.a,OP.b,OP.c])
   refine wpAnyH_take (i:=5) (oi:=OP.p58) (v:=.slice (some ⟨g,off,none⟩) ln cap) rfl (by kernel_rfl) (by kernel_rfl) (by kernel_rfl) (fun _ _ _ h=>h) (Or.inl ⟨by rfl,fun X hX=>by have q0:X.cell? ⟨d,0,none⟩=some (.slice (some ⟨g,off,none⟩) ln cap):=(by simp [World.cell?,hX.1]);have q1:X.cell? ⟨d,1,none⟩=some (.int .i64 ((i:Int)+1)):=(by simp [World.cell?,hX.1]);have q2:=hX.2;go_simp⟩) hHeld ?_
   (try simp only [Act.put,OP.a,OP.b,OP.c])
   refine wpAnyH_take (i:=6) (oi:=OP.p59) (v:=.pointer (some ⟨d,0,none⟩)) rfl (by kernel_rfl) (by kernel_rfl) (by kernel_rfl) (fun _ _ _ h=>h) (Or.inl ⟨by rfl,fun X hX=>rfl⟩) hHeld ?_
   (try simp only [Act.put,OP.a,OP.b,OP.c])
   refine wpAnyH_take (i:=7) (oi:=OP.p60) (v:=.pointer (some ⟨d,0,none⟩)) rfl (by kernel_rfl) (by kernel_rfl) (by kernel_rfl) (fun _ _ _ h=>h) (Or.inl ⟨by rfl,fun X hX=>rfl⟩) hHeld ?_
   (try simp only [Act.put,OP.a,OP.b,OP.c])
   refine wpAnyH_take (i:=8) (oi:=OP.p61) (v:=.pointer (some ⟨d,1,none⟩)) rfl (by kernel_rfl) (by kernel_rfl) (by kernel_rfl) (fun _ _ _ h=>h) (Or.inl ⟨by rfl,fun X hX=>rfl⟩) hHeld ?_
   (try simp only [Act.put,OP.a,OP.b,OP.c])
   refine wpAnyH_take (i:=9) (oi:=OP.p62) (v:=.int .i64 ((i:Int)+1)) rfl (by kernel_rfl) (by kernel_rfl) (by kernel_rfl) (fun _ _ _ h=>h) (Or.inl ⟨by rfl,fun X hX=>by have q0:X.cell? ⟨d,0,none⟩=some (.slice (some ⟨g,off,none⟩) ln cap):=(by simp [World.cell?,hX.1]);have q1:X.cell? ⟨d,1,none⟩=some (.int .i64 ((i:Int)+1)):=(by simp [World.cell?,hX.1]);have q2:=hX.2;go_simp⟩) hHeld ?_
   (try simp only [Act.put,OP.a,OP.b,OP.c])
   refine wpAnyH_take (i:=10) (oi:=OP.p63) (v:=.int .i64 i) rfl (by kernel_rfl) (by kernel_rfl) (by kernel_rfl) (fun _ _ _ h=>h) (Or.inl ⟨by rfl,fun X hX=>by go_simp⟩) hHeld ?_
   (try simp only [Act.put,OP.a,OP.b,OP.c])
   refine wpAnyH_take (i:=11) (oi:=OP.p64) (v:=.pointer (some ⟨g,off+i*4,none⟩)) rfl (by kernel_rfl) (by kernel_rfl) (by kernel_rfl) (fun _ _ _ h=>h) (Or.inl ⟨by rfl,fun X hX=>idx_tok 36 41 g off ln i cap X rfl rfl rfl hil⟩) hHeld ?_
   (try simp only [Act.put,OP.a,OP.b,OP.c])
   refine wpAnyH_take (i:=12) (oi:=OP.p65) (v:=.pointer (some ⟨g,off+i*4+1,none⟩)) rfl (by kernel_rfl) (by kernel_rfl) (by kernel_rfl) (fun _ _ _ h=>h) (Or.inl ⟨by rfl,fun X hX=>rfl⟩) hHeld ?_
   (try simp only [Act.put,OP.a,OP.b,OP.c])
   refine wpAnyH_take (i:=13) (oi:=OP.p66) (v:=.string tx) rfl (by kernel_rfl) (by kernel_rfl) (by kernel_rfl) (fun _ _ _ h=>h) (Or.inl ⟨by rfl,fun X hX=>by have q0:X.cell? ⟨d,0,none⟩=some (.slice (some ⟨g,off,none⟩) ln cap):=(by simp [World.cell?,hX.1]);have q1:X.cell? ⟨d,1,none⟩=some (.int .i64 ((i:Int)+1)):=(by simp [World.cell?,hX.1]);have q2:=hX.2;go_simp⟩) hHeld ?_
   (try simp only [Act.put,OP.a,OP.b,OP.c])
   refine wpAnyH_take (i:=14) (oi:=OP.p67) (v:=.int .i64 fr) rfl (by kernel_rfl) (by kernel_rfl) (by kernel_rfl) (fun _ _ _ h=>h) (Or.inl ⟨by rfl,fun X hX=>rfl⟩) hHeld ?_
   (try simp only [Act.put,OP.a,OP.b,OP.c])
   have cP:=part_any d L lv (i+1) false ⟨#[115,116,114]⟩ tx fr none 0 0 V HRV.out HTV.out (by have:=HLN.out;omega) hL;obtain ⟨ez,hez⟩:∃ u,toT L (i+1)=u:=⟨_,rfl⟩;rw [hez] at cP;have HEZ:=hid hez;clear hez;refine wpAnyH_ready (rs:=[15]) (by kernel_rfl) (by simp) ?_;refine (AllReadyH.cons (o:=OP.p68) rfl (fun K hK=>?_) AllReadyH.nil);refine wanted_step (by kernel_rfl) ?_
   go_simp
   go_at_call 52
   refine cP.mono ?_;rintro x wP ⟨rfl,hwP⟩
   have hRP:wP.heap[d]?=some (.cells #[.slice (some ⟨g,off,none⟩) ln cap,.int .i64 ((i:Int)+1),.bool false] 44 (0,0)):=by have h:=hwP.1;unfold Rd at h;rw [HLV.out,HLN.out,show ((i+1:Nat):Int)=(i:Int)+1 by omega] at h;exact h
   have hgP:wP.cell? ⟨g,off+i*4+1,none⟩=some (.string tx):=by rw [World.cell?_of_block (hwP.2.block g HGZ.out hgd)];exact hHeld.2
   have HMP:=hid (HMV.out.trans (hwP.2.mono HMV.out.size));have HWP:=hid hwP;clear cP hwP;dsimp only;refine hK.out _ _ (⟨hRP,hgP⟩) (fun hHeld2=>?_)
   (try simp only [Act.put,OP.a,OP.b,OP.c])
   clear hK K;have hq8:wP.heap[w.heap.size]?=_:=(HMP.out.block w.heap.size (Array.getElem?_eq_some_iff.1 HQ1.out).1 (by omega)).trans HQ1.out;obtain ⟨⟨r0,r1,r2,r3,r4⟩,gz⟩:=five_cells hq8;have g0:=gz 0;have g1:=gz 1;have g2:=gz 2;have g3:=gz 3;have g4:=gz 4;obtain ⟨WF,hWF,hFq,hFo,-⟩:=put_five (a':=.string ⟨#[115,116,114]⟩) (b':=.string tx) (c':=.int .i64 fr) (e':=.int .i64 ez) (f':=.slice none 0 0) hq8;have hHeldF:WF.heap[d]?=some (.cells #[.slice (some ⟨g,off,none⟩) ln cap,.int .i64 ((i:Int)+1),.bool false] 44 (0,0))∧WF.cell? ⟨g,off+i*4+1,none⟩=some (.string tx):=⟨(hFo d (by omega)).trans hHeld2.1,by rw [World.cell?_of_block (hFo g hgw)];exact hHeld2.2⟩;have HFQ:=hid hFq;have HWF:=hid hWF;clear gz hq8 hFq hFo;refine wpAnyH_ready (rs:=[16]) (by kernel_rfl) (by simp) ?_;refine (AllReadyH.cons (o:=OP.p69) rfl (fun K hK=>?_) AllReadyH.nil);refine wanted_step (by kernel_rfl) ?_
   go_simp
   refine hK.out _ _ (hHeldF) (fun hHeld3=>?_)
   (try simp only [Act.put,OP.a,OP.b,OP.c])
   clear hK K;clear r0 r1 r2 r3 r4 g0 g1 g2 g3 g4 hWF hHeld hHeld2 hHeld3 hHeldF hRP hgP;refine wpAnyH_done (by kernel_rfl) ?_ _
   go_wp2_with fail
   refine bodyPost_ret (v:=.agg #[.string ⟨#[115,116,114]⟩,.string tx,.int .i64 fr,.int .i64 ez,.slice none 0 0]) (results_cell_row rfl _ _ w.heap.size 25 #[.string ⟨#[115,116,114]⟩,.string tx,.int .i64 fr,.int .i64 ez,.slice none 0 0] (0,0) _ (by rfl) HFQ.out Tryz.underlying25 rfl (by kernel_rfl)) rfl ?_;rw [← HQ.out,HOO.out,← HWF.out];refine reads_end hd (HM1.out.trans (HMP.out.mono HM1.out.size)) HWP.out.1 rfl rfl ?_ ⟨Nat.le_refl _,Nat.le_refl _⟩;refine ⟨_,_,_,_,_,_,_,rfl,by omega,fun p j hpj=>?_⟩;simp only [part,Out.ok.injEq] at hpj;obtain ⟨rfl,rfl⟩:=hpj;rw [HEZ.out,← HTX.out]
   exact ⟨rfl,kids_none _ _ _ _ _ _⟩
 ·skip
  have hb:b=false∧comesT L 1 i=true:=by simpa using HA.out
  obtain ⟨rfl,his⟩:=hb;have hil:i<L.length:=comesT_lt his;obtain ⟨m,rfl⟩:∃ m,n=m+1:=⟨n - 1,by have:=HN.out (by trivial);omega⟩
  have HOO:Hid (O=part L kNum (textT L i) fr [] (i+1)):=hid (by
   rw [← HO.out,← HFR.out,start_false,operand_succ,if_pos his])
  have h2:comesT L 2 i=false:=by
   rw [comesT_in 1 hil] at his;rw [comesT_in 2 hil]
   have h9:L[i].w=1:=by simpa using his
   rw [h9];decide
  go_wp2_with fail
  refine c2.mono ?_;intro x w3 h4;obtain ⟨rfl,hw4⟩:=h4.went HR2.out;have HM3:=hid (HM2.out.trans (hw4.2.mono HM2.out.size));have HR3:=hid hw4.1;have c3:=comes_any d L lv i false 2 w3 HR3.out (HT1.out.mv HM3.out (Nat.le_refl _));rw [h2] at c3;clear c2 h4 hw4 his h2
  go_wp2_with fail
  refine c3.mono ?_;intro x w9 h4;obtain ⟨rfl,hw4⟩:=h4.went HR3.out;have HM9:=hid (HM3.out.trans (hw4.2.mono HM3.out.size));have HR9:=hid hw4.1;have k1:=HR9.out.c1;have f1:=HR9.out.f1;have e1:IntKind.i64.wrap ((i:Int)+1)=(i:Int)+1:=IntWalk.i64_in _ (by omega);obtain ⟨W10,hW10⟩:∃ W,w9.setCell ⟨d,1,none⟩ (.int .i64 ((i:Int)+1))=W:=⟨_,rfl⟩
  have hR10:Rd d lv (i+1) false W10:=by rw [← hW10];exact HR9.out.set1 ((i:Int)+1) (by simp)
  have hM10:Mv W1.heap.size d W1 W10:=by rw [← hW10];exact HM9.out.trans ((Mv.refl _ _ _).setCell 1 _)
  have HR10:=hid hR10;have HM10:=hid hM10;clear c3 h4 hw4 hR10 hM10
  go_upto_region 7 with fail
  try rw [hW10]
  have hd10:W10.drew.heap[d]?=some (.cells #[lv,.int .i64 ((i:Int)+1),.bool false] 44 (0,0)):=HR10.out;have hT10:=HT1.out.mv HM10.out (Nat.le_refl _);obtain ⟨g,off,cap,hlv,hgd,t0,t1,t2,t3⟩:=tk_word (i:=i) hT10 hil
  have hg10:W10.drew.cell? ⟨g,off+i*4+1,none⟩=some (.string (bstr (textT L i))):=by rw [text_in hil];exact t1
  have hgw:g≠w.heap.size:=by
   obtain ⟨la,cap',h1,h2⟩:=HT0.out
   rcases h2 with h2|⟨g',off',h3,_,h5,_⟩
   ·rw [h2] at hil;exact absurd hil (Nat.not_lt_zero _)
   ·rw [hlv,h3] at h1
    injection h1 with h1
    injection h1 with h1
    injection h1 with h1
    omega
  have hgz:g<W10.drew.heap.size:=World.block_lt_of_cell? _ _ hg10;have HTV:Hid (Tk d L lv W10.drew):=hid hT10;have HRV:Hid (Rd d lv (i+1) false W10.drew):=hid HR10.out;have HMV:Hid (Mv W1.heap.size d W1 W10.drew):=hid (HM10.out.drewN 1);obtain ⟨tx,htx⟩:∃ u,bstr (textT L i)=u:=⟨_,rfl⟩;rw [htx] at hg10;have HTX:=hid htx;rw [hlv] at hd10;obtain ⟨ln,hln⟩:∃ u,L.length=u:=⟨_,rfl⟩;rw [hln] at hd10 hil;have HLN:=hid hln;have HGZ:=hid hgz;have HLV:=hid hlv
  have e2:IntKind.i64.wrap ((i:Int)+1 - 1)=(i:Int):=by rw [show (i:Int)+1 - 1=(i:Int) by omega];exact IntWalk.i64_in _ (by omega)
  have e3:IntKind.i64.wrap (i:Int)=(i:Int):=IntWalk.i64_in _ (by omega);obtain ⟨V,hV⟩:∃ V,W10.drew=V:=⟨_,rfl⟩;clear t0 t1 t2 t3 hT10 k1 f1 e1 hW10 htx hln hgz hlv;refine wp_region_held_drew (S:=fun X=>X.heap[d]?=some (.cells #[.slice (some ⟨g,off,none⟩) ln cap,.int .i64 ((i:Int)+1),.bool false] 44 (0,0))∧X.cell? ⟨g,off+i*4+1,none⟩=some (.string tx)) (by kernel_rfl) ⟨hd10,hg10⟩ (fun hHeld=>?_);clear hd10 hg10;rw [hV] at hHeld HTV HRV HMV HGZ ⊢;clear hV;refine wpAnyH_take (i:=0) (oi:=OP.p53) (v:=.pointer (some ⟨d,0,none⟩)) rfl (by kernel_rfl) (by kernel_rfl) (by kernel_rfl) (fun _ _ _ h=>h) (Or.inl ⟨by rfl,fun X hX=>rfl⟩) hHeld ?_
  (try simp only [Act.put,OP.a,OP.b,OP.c])
  refine wpAnyH_take (i:=1) (oi:=OP.p54) (v:=.string ⟨#[110,117,109]⟩) rfl (by kernel_rfl) (by kernel_rfl) (by kernel_rfl) (fun _ _ _ h=>h) (Or.inl ⟨by rfl,fun X hX=>rfl⟩) hHeld ?_
  (try simp only [Act.put,OP.a,OP.b,OP.c])
  refine wpAnyH_take (i:=2) (oi:=OP.p55) (v:=.pointer (some ⟨d,0,none⟩)) rfl (by kernel_rfl) (by kernel_rfl) (by kernel_rfl) (fun _ _ _ h=>h) (Or.inl ⟨by rfl,fun X hX=>rfl⟩) hHeld ?_
  (try simp only [Act.put,OP.a,OP.b,OP.c])
  refine wpAnyH_take (i:=3) (oi:=OP.p56) (v:=.pointer (some ⟨d,0,none⟩)) rfl (by kernel_rfl) (by kernel_rfl) (by kernel_rfl) (fun _ _ _ h=>h) (Or.inl ⟨by rfl,fun X hX=>rfl⟩) hHeld ?_
  (try simp only [Act.put,OP.a,OP.b,OP.c])
  refine wpAnyH_take (i:=4) (oi:=OP.p57) (v:=.pointer (some ⟨d,0,none⟩)) rfl (by kernel_rfl) (by kernel_rfl) (by kernel_rfl) (fun _ _ _ h=>h) (Or.inl ⟨by rfl,fun X hX=>rfl⟩) hHeld ?_
  (try simp only [Act.put,OP.a,OP.b,OP.c])
  refine wpAnyH_take (i:=5) (oi:=OP.p58) (v:=.slice (some ⟨g,off,none⟩) ln cap) rfl (by kernel_rfl) (by kernel_rfl) (by kernel_rfl) (fun _ _ _ h=>h) (Or.inl ⟨by rfl,fun X hX=>by have q0:X.cell? ⟨d,0,none⟩=some (.slice (some ⟨g,off,none⟩) ln cap):=(by simp [World.cell?,hX.1]);have q1:X.cell? ⟨d,1,none⟩=some (.int .i64 ((i:Int)+1)):=(by simp [World.cell?,hX.1]);have q2:=hX.2;go_simp⟩) hHeld ?_
  (try simp only [Act.put,OP.a,OP.b,OP.c])
  refine wpAnyH_take (i:=6) (oi:=OP.p59) (v:=.pointer (some ⟨d,0,none⟩)) rfl (by kernel_rfl) (by kernel_rfl) (by kernel_rfl) (fun _ _ _ h=>h) (Or.inl ⟨by rfl,fun X hX=>rfl⟩) hHeld ?_
  (try simp only [Act.put,OP.a,OP.b,OP.c])
  refine wpAnyH_take (i:=7) (oi:=OP.p60) (v:=.pointer (some ⟨d,0,none⟩)) rfl (by kernel_rfl) (by kernel_rfl) (by kernel_rfl) (fun _ _ _ h=>h) (Or.inl ⟨by rfl,fun X hX=>rfl⟩) hHeld ?_
  (try simp only [Act.put,OP.a,OP.b,OP.c])
  refine wpAnyH_take (i:=8) (oi:=OP.p61) (v:=.pointer (some ⟨d,1,none⟩)) rfl (by kernel_rfl) (by kernel_rfl) (by kernel_rfl) (fun _ _ _ h=>h) (Or.inl ⟨by rfl,fun X hX=>rfl⟩) hHeld ?_
  (try simp only [Act.put,OP.a,OP.b,OP.c])
  refine wpAnyH_take (i:=9) (oi:=OP.p62) (v:=.int .i64 ((i:Int)+1)) rfl (by kernel_rfl) (by kernel_rfl) (by kernel_rfl) (fun _ _ _ h=>h) (Or.inl ⟨by rfl,fun X hX=>by have q0:X.cell? ⟨d,0,none⟩=some (.slice (some ⟨g,off,none⟩) ln cap):=(by simp [World.cell?,hX.1]);have q1:X.cell? ⟨d,1,none⟩=some (.int .i64 ((i:Int)+1)):=(by simp [World.cell?,hX.1]);have q2:=hX.2;go_simp⟩) hHeld ?_
  (try simp only [Act.put,OP.a,OP.b,OP.c])
  refine wpAnyH_take (i:=10) (oi:=OP.p63) (v:=.int .i64 i) rfl (by kernel_rfl) (by kernel_rfl) (by kernel_rfl) (fun _ _ _ h=>h) (Or.inl ⟨by rfl,fun X hX=>by go_simp⟩) hHeld ?_
  (try simp only [Act.put,OP.a,OP.b,OP.c])
  refine wpAnyH_take (i:=11) (oi:=OP.p64) (v:=.pointer (some ⟨g,off+i*4,none⟩)) rfl (by kernel_rfl) (by kernel_rfl) (by kernel_rfl) (fun _ _ _ h=>h) (Or.inl ⟨by rfl,fun X hX=>idx_tok 36 41 g off ln i cap X rfl rfl rfl hil⟩) hHeld ?_
  (try simp only [Act.put,OP.a,OP.b,OP.c])
  refine wpAnyH_take (i:=12) (oi:=OP.p65) (v:=.pointer (some ⟨g,off+i*4+1,none⟩)) rfl (by kernel_rfl) (by kernel_rfl) (by kernel_rfl) (fun _ _ _ h=>h) (Or.inl ⟨by rfl,fun X hX=>rfl⟩) hHeld ?_
  (try simp only [Act.put,OP.a,OP.b,OP.c])
  refine wpAnyH_take (i:=13) (oi:=OP.p66) (v:=.string tx) rfl (by kernel_rfl) (by kernel_rfl) (by kernel_rfl) (fun _ _ _ h=>h) (Or.inl ⟨by rfl,fun X hX=>by have q0:X.cell? ⟨d,0,none⟩=some (.slice (some ⟨g,off,none⟩) ln cap):=(by simp [World.cell?,hX.1]);have q1:X.cell? ⟨d,1,none⟩=some (.int .i64 ((i:Int)+1)):=(by simp [World.cell?,hX.1]);have q2:=hX.2;go_simp⟩) hHeld ?_
  (try simp only [Act.put,OP.a,OP.b,OP.c])
  refine wpAnyH_take (i:=14) (oi:=OP.p67) (v:=.int .i64 fr) rfl (by kernel_rfl) (by kernel_rfl) (by kernel_rfl) (fun _ _ _ h=>h) (Or.inl ⟨by rfl,fun X hX=>rfl⟩) hHeld ?_
  (try simp only [Act.put,OP.a,OP.b,OP.c])
  have cP:=part_any d L lv (i+1) false ⟨#[110,117,109]⟩ tx fr none 0 0 V HRV.out HTV.out (by have:=HLN.out;omega) hL;obtain ⟨ez,hez⟩:∃ u,toT L (i+1)=u:=⟨_,rfl⟩;rw [hez] at cP;have HEZ:=hid hez;clear hez;refine wpAnyH_ready (rs:=[15]) (by kernel_rfl) (by simp) ?_;refine (AllReadyH.cons (o:=OP.p68) rfl (fun K hK=>?_) AllReadyH.nil);refine wanted_step (by kernel_rfl) ?_
  go_simp
  go_at_call 52
  refine cP.mono ?_;rintro x wP ⟨rfl,hwP⟩
  have hRP:wP.heap[d]?=some (.cells #[.slice (some ⟨g,off,none⟩) ln cap,.int .i64 ((i:Int)+1),.bool false] 44 (0,0)):=by have h:=hwP.1;unfold Rd at h;rw [HLV.out,HLN.out,show ((i+1:Nat):Int)=(i:Int)+1 by omega] at h;exact h
  have hgP:wP.cell? ⟨g,off+i*4+1,none⟩=some (.string tx):=by rw [World.cell?_of_block (hwP.2.block g HGZ.out hgd)];exact hHeld.2
  have HMP:=hid (HMV.out.trans (hwP.2.mono HMV.out.size));have HWP:=hid hwP;clear cP hwP;dsimp only;refine hK.out _ _ (⟨hRP,hgP⟩) (fun hHeld2=>?_)
  (try simp only [Act.put,OP.a,OP.b,OP.c])
  clear hK K;have hq8:wP.heap[w.heap.size]?=_:=(HMP.out.block w.heap.size (Array.getElem?_eq_some_iff.1 HQ1.out).1 (by omega)).trans HQ1.out;obtain ⟨⟨r0,r1,r2,r3,r4⟩,gz⟩:=five_cells hq8;have g0:=gz 0;have g1:=gz 1;have g2:=gz 2;have g3:=gz 3;have g4:=gz 4;obtain ⟨WF,hWF,hFq,hFo,-⟩:=put_five (a':=.string ⟨#[110,117,109]⟩) (b':=.string tx) (c':=.int .i64 fr) (e':=.int .i64 ez) (f':=.slice none 0 0) hq8;have hHeldF:WF.heap[d]?=some (.cells #[.slice (some ⟨g,off,none⟩) ln cap,.int .i64 ((i:Int)+1),.bool false] 44 (0,0))∧WF.cell? ⟨g,off+i*4+1,none⟩=some (.string tx):=⟨(hFo d (by omega)).trans hHeld2.1,by rw [World.cell?_of_block (hFo g hgw)];exact hHeld2.2⟩;have HFQ:=hid hFq;have HWF:=hid hWF;clear gz hq8 hFq hFo;refine wpAnyH_ready (rs:=[16]) (by kernel_rfl) (by simp) ?_;refine (AllReadyH.cons (o:=OP.p69) rfl (fun K hK=>?_) AllReadyH.nil);refine wanted_step (by kernel_rfl) ?_
  go_simp
  refine hK.out _ _ (hHeldF) (fun hHeld3=>?_)
  (try simp only [Act.put,OP.a,OP.b,OP.c])
  clear hK K;clear r0 r1 r2 r3 r4 g0 g1 g2 g3 g4 hWF hHeld hHeld2 hHeld3 hHeldF hRP hgP;refine wpAnyH_done (by kernel_rfl) ?_ _
  go_wp2_with fail
  refine bodyPost_ret (v:=.agg #[.string ⟨#[110,117,109]⟩,.string tx,.int .i64 fr,.int .i64 ez,.slice none 0 0]) (results_cell_row rfl _ _ w.heap.size 25 #[.string ⟨#[110,117,109]⟩,.string tx,.int .i64 fr,.int .i64 ez,.slice none 0 0] (0,0) _ (by rfl) HFQ.out Tryz.underlying25 rfl (by kernel_rfl)) rfl ?_;rw [← HQ.out,HOO.out,← HWF.out];refine reads_end hd (HM1.out.trans (HMP.out.mono HM1.out.size)) HWP.out.1 rfl rfl ?_ ⟨Nat.le_refl _,Nat.le_refl _⟩;refine ⟨_,_,_,_,_,_,_,rfl,by omega,fun p j hpj=>?_⟩;simp only [part,Out.ok.injEq] at hpj;obtain ⟨rfl,rfl⟩:=hpj;rw [HEZ.out,← HTX.out]
  exact ⟨rfl,kids_none _ _ _ _ _ _⟩
end Go.Proofs.YtmclaaonlhnbmaaGreatDoor.T
namespace Go.Proofs.YtmclaaonlhnbmaaGreatDoor.T
open Go.RowKit
open Go.Lib hiding intOf
open U S L
theorem good_exprs (d:Nat) (L:List TokP) (lv:Value) (hL:L.length≤1000000) (n:Nat):OperandAt d L lv n∧PrefixAt d L lv n∧ExprAt d L lv n:=by
 induction n using Nat.strongRecOn with
 | _ n ih =>
  have hO:OperandAt d L lv n:=operand_step d L lv hL n (fun m hm=>(ih m hm).2.2)
  have hP:PrefixAt d L lv n:=prefix_step d L lv hL n (fun m hm=>(ih m (by omega)).2.1) (fun m hm=>by
   by_cases h:m<n
   ·exact (ih m h).1
   ·obtain rfl:m=n:=by omega
    exact hO) (fun m hm=>(ih m hm).2.2)
  refine ⟨hO,hP,expr_step d L lv hL n (fun m hm=>?_) (fun m hm=>(ih m hm).2.2)⟩
  by_cases h:m<n
  ·exact (ih m h).2.1
  ·obtain rfl:m=n:=by omega
   exact hP
theorem expr_any (d:Nat) (L:List TokP) (lv:Value) (hL:L.length≤1000000) (n:Nat):ExprAt d L lv n:=(good_exprs d L lv hL n).2.2
section
variable (L:List TokP)
theorem block_zero (i:Nat):block L 0 i=.bad i:=by rw [block]
theorem stmts_zero (i:Nat) (acc:List Pt):stmts L 0 i acc=.bad i:=by rw [stmts]
theorem branch_zero (i:Nat):branch L 0 i=.bad i:=by rw [branch]
theorem stmt_zero (i:Nat):stmt L 0 i=.bad i:=by rw [stmt]
theorem block_succ (n i:Nat):block L (n+1) i=(mustT L [123] i).next fun _ j=>(stmts L n (j+semiN L j) []).next fun l k=>(mustT L [125] k).next fun _ m=>part L kBlock [] (fromT L i) l m:=by rw [block]
theorem stmts_succ (n i:Nat) (acc:List Pt):stmts L (n+1) i acc=if isT L [125] i then .ok acc i
  else (stmt L n i).next fun p j=>if semiN L j=0∧isT L [125] j=false then .bad j else stmts L n (j+semiN L j) (acc++[p]):=by rw [stmts]
theorem branch_succ (n i:Nat):branch L (n+1) i=(mustT L kIf i).next fun _ j=>(expr L n 0 j).next fun e k=>(block L n k).next fun b m =>
  if isT L kElse m then
   if isT L kIf (m+1) then (branch L n (m+1)).next fun o p=>part L kIf [] (fromT L i) [e,b,o] p
   else (block L n (m+1)).next fun o p=>part L kIf [] (fromT L i) [e,b,o] p
  else part L kIf [] (fromT L i) [e,b] m:=by rw [branch]
theorem stmt_succ (n i:Nat):stmt L (n+1) i =
  if isT L kVar i then variable' L n i
  else if isT L kIf i then branch L n i
  else if isT L [123] i then block L n i
  else if isT L kFor i then (expr L n 0 (i+1)).next fun e j=>(block L n j).next fun b k=>part L kFor [] (fromT L i) [e,b] k
  else if isT L kReturn i then
   if comesT L 5 (i+1)∨isT L [125] (i+1) then part L kReturn [] (fromT L i) [] (i+1)
   else (expr L n 0 (i+1)).next fun e j=>part L kReturn [] (fromT L i) [e] j
  else (expr L n 0 i).next fun a j =>
   if isT L [61] j then (expr L n 0 (j+1)).next fun b k=>part L kAssign [] (fromT L i) [a,b] k
   else if isT L [58,61] j then (expr L n 0 (j+1)).next fun b k=>part L kDefine [] (fromT L i) [a,b] k
   else part L kExpr [] (fromT L i) [a] j:=by rw [stmt]
theorem semi_le {j:Nat} (hj:j≤L.length):j+semiN L j≤L.length:=by have:=semiN_le L j;omega
structure AllFwdS (n:Nat):Prop where
 block:∀ i,i≤L.length→Fwd L i (block L n i)
 stmts:∀ i,i≤L.length→∀ acc,Fw L i (stmts L n i acc)
 branch:∀ i,i≤L.length→Fwd L i (branch L n i)
 stmt:∀ i,i≤L.length→Fwd L i (stmt L n i)
theorem all_fwdS:∀ n,AllFwdS L n
 | 0=>⟨fun i hi=>by rw [block_zero];exact .bad hi,fun i hi _=>by rw [stmts_zero];exact ⟨Nat.le_refl _,hi⟩,fun i hi=>by rw [branch_zero];exact .bad hi,fun i hi=>by rw [stmt_zero];exact .bad hi⟩
 | n+1=>by
  have ih:=all_fwdS n;have ie:=@all_fwd L n
  refine ⟨fun i hi=>?_,fun i hi acc=>?_,fun i hi=>?_,fun i hi=>?_⟩
  ·rw [block_succ]
   refine (mustT_fwd _ hi).next fun _ j _ _ hj=>((ih.stmts _ (semi_le L hj) []).mono (Nat.le_add_right _ _)).next fun l k _ _ hk=>((mustT_fwd _ hk).next fun _ m _ _ hm=>part_fw _ _ _ _ hm).toFw
  ·rw [stmts_succ]
   split
   ·exact .ok (Nat.le_refl _) hi _
   ·refine (((ih.stmt i hi).next fun p j _ _ hj=>?_)).toFw
    split
    ·exact ⟨Nat.le_refl _,hj⟩
    ·exact (ih.stmts _ (semi_le L hj) _).mono (Nat.le_add_right _ _)
  ·rw [branch_succ]
   refine (mustT_fwd _ hi).next fun _ j _ _ hj=>((ie.expr j hj 0).next fun e k _ _ hk=>((ih.block k hk).next fun b m _ _ hm=>?_).toFw).toFw
   split
   ·rename_i he
    have hm1:=isT_lt he
    split
    ·exact ((ih.branch (m+1) hm1).next fun o p _ _ hp=>part_fw _ _ _ _ hp).toFw.mono (Nat.le_succ _)
    ·exact ((ih.block (m+1) hm1).next fun o p _ _ hp=>part_fw _ _ _ _ hp).toFw.mono (Nat.le_succ _)
   ·exact part_fw _ _ _ _ hm
  ·rw [stmt_succ]
   split
   ·exact variable_fwd n hi
   split
   ·exact ih.branch i hi
   split
   ·exact ih.block i hi
   split
   ·rename_i h
    have h1:=isT_lt h
    exact (((ie.expr (i+1) h1 0).next fun e j _ _ hj=>((ih.block j hj).next fun b k _ _ hk=>part_fw _ _ _ _ hk).toFw)).toFw.strict (Nat.lt_succ_self _)
   split
   ·rename_i h
    have h1:=isT_lt h
    split
    ·exact .ok (Nat.lt_succ_self _) h1 _
    ·exact (((ie.expr (i+1) h1 0).next fun e j _ _ hj=>part_fw _ _ _ _ hj)).toFw.strict (Nat.lt_succ_self _)
   ·refine (ie.expr i hi 0).next fun a j _ _ hj=>?_
    split
    ·rename_i h
     exact ((ie.expr (j+1) (isT_lt h) 0).next fun b k _ _ hk=>part_fw _ _ _ _ hk).toFw.mono (Nat.le_succ _)
    split
    ·rename_i h
     exact ((ie.expr (j+1) (isT_lt h) 0).next fun b k _ _ hk=>part_fw _ _ _ _ hk).toFw.mono (Nat.le_succ _)
    ·exact part_fw _ _ _ _ hj
end
end Go.Proofs.YtmclaaonlhnbmaaGreatDoor.T
