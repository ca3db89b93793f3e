/- What the claim needs of the texts TOperand, TGood. -/
import Derived.Test.YtojoahlpgmnbnaaGreatDoorUWOp
import Derived.Test.YtojoahlpgmnbnaaGreatDoorUW20
set_option maxRecDepth 20000
set_option maxHeartbeats 16000000
namespace Go.Proofs.YtojoahlpgmnbnaaGreatDoor
namespace T
open Go.RowKit
open Go.Lib hiding intOf
open U S L
theorem NM {L:List bn} {i:Nat} (h:i<L.length):dx L i=L[i].t:=by unfold dx;rw [aB h]
theorem Im (d:Nat) (L:List bn) (lv:Value) (hL:L.length≤1000000) (n:Nat) (ih:∀ m,m<n→AP d L lv m):xw d L lv n:=by
 intro i b w hR hT hi hn;obtain ⟨O,hO⟩:∃ O,start b i (operand L n i)=O:=⟨_,rfl⟩;have HO:=hid hO;have HI:=hid ih;rw [hO];clear hO ih;have hd:=hR.lt;obtain ⟨W1,hW1⟩:∃ W1,w.alloc gu=W1:=⟨_,rfl⟩
 have hb1:Below w.heap.size w W1:=by rw [← hW1];exact (ah _ w).alloc (ae _) _
 have dN:=hid (Mv.of_below (d:=d) hb1)
 have hq1:W1.heap[w.heap.size]?=some (.cells #[.string ⟨#[]⟩,.string ⟨#[]⟩,.int .i64 0,.int .i64 0,.slice none 0 0] 49 (0,0)):=by rw [← hW1];exact aG w _
 have lK:Rd d lv i b W1:=hR.below hb1;have hT1:=hT.mv (Mv.of_below hb1) (ae _);have c1:=nC d L lv i b W1 lK hT1;obtain ⟨fr,hfr⟩:∃ fr,bQ L i=fr:=⟨_,rfl⟩;rw [hfr] at c1;have AM:=hid hfr;have HW1:=hid hW1;have jC:=hid hq1;have HR1:=hid lK;have HT1:=hid hT1;have HT0:=hid hT;have HN:=hid hn;obtain ⟨Q,hQ⟩:∃ Q,Reads d lv O w=Q:=⟨_,rfl⟩;have HQ:=hid hQ;rw [hQ];clear hW1 hq1 hb1 lK hT1 hfr hn hQ hR hT
 go_enter Tryz.func141,Tryz.ntmps141
 go_wp2_with fail
 rw [HW1.out];refine c1.mono ?_;intro x w2 h2;obtain ⟨rfl,hw2⟩:=h2.went HR1.out;have kG:=hid hw2.2;have HR2:=hid hw2.1;clear c1 h2 hw2;have c2:=pN d L lv i b 1 w2 HR2.out (HT1.out.mv kG.out (ae _));obtain ⟨RA,Mq⟩:∃ R,(!b&&bT L 1 i)=R:=⟨_,rfl⟩;rw [Mq] at c2;have HA:=hid Mq;clear Mq
 cases RA
 focus
  go_wp2_with fail
  refine c2.mono ?_;intro x w3 h3;obtain ⟨rfl,hw3⟩:=h3.went HR2.out;have lh:=hid (kG.out.trans (hw3.2.mono kG.out.size));have HR3:=hid hw3.1;have c3:=pN d L lv i b 2 w3 HR3.out (HT1.out.mv lh.out (ae _));obtain ⟨RB,Zt⟩:∃ R,(!b&&bT L 2 i)=R:=⟨_,rfl⟩;rw [Zt] at c3;have HB:=hid Zt;clear Zt c2 h3 hw3
  cases RB
  ·go_wp2_with fail
   refine c3.mono ?_;intro x w4 h4;obtain ⟨rfl,hw4⟩:=h4.went HR3.out;have mO:=hid (lh.out.trans (hw4.2.mono lh.out.size));have HR4:=hid hw4.1;have c4:=fB d L lv i b [40] w4 HR4.out (HT1.out.mv mO.out (ae _)) (by omega);rw [show aX [40]=⟨#[40]⟩ from rfl] at c4;obtain ⟨RC,hRC⟩:∃ R,(!b&&bH L [40] i)=R:=⟨_,rfl⟩;rw [hRC] at c4;have HC:=hid hRC;clear hRC c3 h4 hw4
   cases RC
   ·obtain ⟨nm,hnm⟩:∃ u,start b i (gG L i)=u:=⟨_,rfl⟩
    have sP:Hid (pI L i b (start b i (Out.ok () i:Out Unit))):=hid (.begun hi ⟨ae _,hi⟩);have rU:Hid (pI L i b nm):=hid (by rw [← hnm];exact .begun hi (jo hi).toFw)
    have aga:Hid (nm.az=false→nm.at=i+1∧b=false∧bT L 0 i=true):=hid (by
     rw [← hnm]
     cases b
     ·rw [aZ]
      unfold gG
      cases bT L 0 i
      ·intro h;cases h
      ·exact fun _=>⟨rfl,rfl,rfl⟩
     ·intro h;cases h)
    have q8:Hid (b=false→∃ m,n=m+1∧O=nm.next fun s j =>
      if bH L [40] j=false then part L Qn s fr [] j
      else if s=p9 then (typed L m (j+1)).next fun x k=>(bJ L [41] k).next fun _ m=>part L p9 [] fr [x] m
      else if s=jL then (typed L m (j+1)).next fun x k=>(bJ L [44] k).next fun _ q=>(expr L m 0 q).next fun e o=>(bJ L [41] o).next fun _ p=>part L jL [] fr [x,e] p
      else if bH L [41] (j+1) then part L mW s fr [] (j+2)
      else (args L m (j+1) []).next fun l k=>part L mW s fr l k):=hid (by
     rintro rfl;obtain ⟨m,rfl⟩:∃ m,n=m+1:=⟨n - 1,by have:=HN.out (by trivial);omega⟩;refine ⟨m,rfl,?_⟩
     rw [← HO.out,← AM.out,← hnm,aZ,aZ,oI,ai (by rw [show bT L 1 i=false by simpa using HA.out];decide),ai (by rw [show bT L 2 i=false by simpa using HB.out];decide),ai (by rw [show bH L [40] i=false by simpa using HC.out];decide)])
    obtain ⟨sv,hsv⟩:∃ u,xI nm=u:=⟨_,rfl⟩;have Ue:=hid hnm;have Tx:=hid hsv;clear hnm hsv
    go_wp2_with fail
    refine c4.mono ?_;rintro x w5 ⟨rfl,jr⟩;have jr:kz d lv i b w4 w5:=jr;have mU:=hid (mO.out.trans (jr.2.mono mO.out.size));have vD:=hid jr.1;clear c4 jr;have c6:=nN d L lv i b w5 vD.out (HT1.out.mv mU.out (ae _)) (by have:=sP.out.le;omega);rw [Ue.out,Tx.out] at c6
    go_wp2_with fail
    refine c6.mono ?_;rintro x w6 ⟨rfl,xz⟩;have oq:=hid (mU.out.trans (xz.2.mono mU.out.size));have Ao:=hid xz.1
    skip
    clear c6 xz;have c7:=fB d L lv nm.at nm.az [40] w6 Ao.out (HT1.out.mv oq.out (ae _)) (by have:=rU.out.le;omega);rw [show aX [40]=⟨#[40]⟩ from rfl] at c7;obtain ⟨RD,hRD⟩:∃ R,(!nm.az&&bH L [40] nm.at)=R:=⟨_,rfl⟩;rw [hRD] at c7;have HD:=hid hRD;clear hRD
    cases RD
    ·have uG:Hid (O=nm.next fun s j=>part L Qn s fr [] j):=hid (by
      cases b
      ·obtain ⟨m,rfl,h⟩:=q8.out rfl
       rw [h];have hD:=HD.out
       cases nm with
       | bad j=>rfl
       | ok s j =>
        show (if bH L [40] j=false then _ else _)=_
        rw [au (by simpa [Out.az,Out.at] using hD)]
        rfl
      ·have h1:=HO.out
       have h2:=Ue.out;rw [← h1,← h2]
       rfl)
     have HAT:Hid (O.at=nm.at∧O.az=nm.az):=hid (by rw [uG.out];exact D7)
     have EC:Hid (∀ {W:World} {R:Nat→Prop} (ez:Int),jZ L nm.at=ez→qp W R O (.agg #[.string ⟨#[105,100]⟩,.string sv,.int .i64 fr,.int .i64 ez,.slice none 0 0])):=hid (by
      intro ez jB;rw [uG.out,← Tx.out]
      exact D6 (K:=Qn) jB)
     go_wp2_with fail
     refine c7.mono ?_;rintro x wq ⟨rfl,hwq⟩;have hwq:kz d lv nm.at nm.az w6 wq:=hwq;have Ct:=hid (oq.out.trans (hwq.2.mono oq.out.size));have HRq:=hid hwq.1;have lD:=Ct;have uq:=HRq;clear c7 hwq;have qw:=lD;have cz:=eZ d L lv nm.at nm.az ⟨#[105,100]⟩ sv fr none 0 0 wq uq.out (HT1.out.mv lD.out (ae _)) rU.out.le hL;obtain ⟨ez,jB⟩:∃ e,jZ L nm.at=e:=⟨_,rfl⟩;rw [jB] at cz;have sN:=hid jB;clear jB
     go_wp2_with fail
     refine cz.mono ?_;rintro x w7 ⟨rfl,hw7⟩;have iK:=hid (qw.out.trans (hw7.2.mono qw.out.size));have oH:=(af.1 jC.out).1;have iZ:w7.heap[w.heap.size]?=_:=(iK.out.block w.heap.size oH (by omega)).trans jC.out;obtain ⟨⟨r0,r1,r2,r3,r4⟩,gz⟩:=aF iZ;have g0:=gz 0;have g1:=gz 1;have g2:=gz 2;have g3:=gz 3;have g4:=gz 4;have pY:=hid iZ;have sI:=hid hw7;clear cz hw7 iZ gz
     go_wp2_with fail
     have hp:=dR (a':=.string ⟨#[105,100]⟩) (b':=.string sv) (c':=.int .i64 fr) (d':=.int .i64 ez) (e':=.slice none 0 0) pY.out;refine aA (v:=.agg #[.string ⟨#[105,100]⟩,.string sv,.int .i64 fr,.int .i64 ez,.slice none 0 0]) (aQ rfl _ _ w.heap.size 49 #[.string ⟨#[105,100]⟩,.string sv,.int .i64 fr,.int .i64 ez,.slice none 0 0] (0,0) _ (by rfl) hp Tryz.underlying49 rfl (by kernel_rfl)) rfl ?_;rw [← HQ.out];refine dM hd (dN.out.trans (iK.out.mono dN.out.size)) sI.out.1 HAT.out.1 HAT.out.2 ?_ ⟨ae _,ae _⟩
     exact EC.out _ sN.out
    ·have hD:nm.az=false∧bH L [40] nm.at=true:=by simpa using HD.out
     obtain ⟨hat,hbf,hcm⟩:=aga.out hD.1;subst hbf;obtain ⟨m,rfl,Uc⟩:=q8.out rfl;have hfu:=HN.out rfl;obtain ⟨s,hs⟩:=yB hD.1;rw [hat] at hs hD;have hil:i+1<L.length:=bR hD.2;have YF:Hid (sv=aX s):=hid (by rw [← Tx.out,hs];rfl)
     have uG:Hid (O=if s=p9 then (typed L m (i+1+1)).next fun x k=>(bJ L [41] k).next fun _ q=>part L p9 [] fr [x] q
      else if s=jL then (typed L m (i+1+1)).next fun x k=>(bJ L [44] k).next fun _ q=>(expr L m 0 q).next fun e o=>(bJ L [41] o).next fun _ p=>part L jL [] fr [x,e] p
      else if bH L [41] (i+1+1) then part L mW s fr [] (i+1+2)
      else (args L m (i+1+1) []).next fun l k=>part L mW s fr l k):=hid (by
      rw [Uc,hs]
      show (if bH L [40] (i+1)=false then _ else _)=_
      rw [ai (by rw [hD.2];decide)])
     have NN:Hid (pI L (i+1+1) false (Out.ok () (i+1+1):Out Unit)):=hid ⟨ae _,hil,fun _=>rfl⟩
     go_wp2_with fail
     refine c7.mono ?_;rintro x w7 ⟨rfl,hw7⟩;have hw7:kz d lv (nm.at+1) nm.az w6 w7:=hw7;rw [hs] at hw7;have hw7:kz d lv (i+1+1) false w6 w7:=hw7;have iK:=hid (oq.out.trans (hw7.2.mono oq.out.size));have sH:=hid hw7.1;clear c7 hw7 hD Uc hs hat hcm
     by_cases h1:s=p9
     ·have q1:(sv.toList==[110,101,119])=true:=by rw [YF.out,h1,lq];decide
      obtain ⟨ox,hox⟩:∃ u,start false (i+1+1) (typed L m (i+1+1))=u:=⟨_,rfl⟩;obtain ⟨om,mH⟩:∃ u,start ox.az ox.at (bJ L [41] ox.at)=u:=⟨_,rfl⟩
      have nU:Hid (O=om.next fun _ q=>part L p9 [] fr [ox.pt] q):=hid (by
       rw [uG.out,au h1,← mH,← aZ (i+1+1) (typed L m (i+1+1)),hox]
       cases ox <;> rfl)
      have BP:Hid (pI L (i+1+1) false ox):=hid (by rw [← hox];exact .begun hil (jq m _ hil).toFw);have qx:Hid (pI L (i+1+1) false om):=hid (by rw [← mH];exact BP.out.step (bU _ BP.out.le).toFw);have HAT:Hid (O.at=om.at∧O.az=om.az):=hid (by rw [nU.out];exact Eb _)
      have NI:Hid (∀ p j,O=.ok p j→∃ K T uQ,p=.mk K T fr (jZ L om.at) [uQ]∧aX K=⟨#[110,101,119]⟩∧aX T=⟨#[]⟩∧∃ AO,ox=.ok uQ AO):=hid (by
       intro p j fK;rw [nU.out] at fK;obtain ⟨h2,h3⟩:=NL fK;rw [← mH] at h2
       exact ⟨_,_,_,h3,rfl,rfl,_,jF (jl h2).1⟩)
      have Hox:=hid hox;have Ih:=hid mH;clear hox mH h1;have c8:=ui d L lv hL m (i+1+1) false w7 sH.out (HT1.out.mv iK.out (ae _)) NN.out.le (fun _=>by have:=NN.out.ge;omega);rw [Hox.out] at c8
      go_wp2_with fail
      refine c8.mono ?_;rintro x w8 ⟨v,rfl,⟨jR,jS,jT,jU,jV,jW,jX,rfl,kT,nD⟩,hw8⟩;have rX:=hid nD;have xK:=hid kT;clear kT;have iX:=hid hw8;clear c8 nD hw8
      go_upto_region 19 with fail
      obtain ⟨oO,jf⟩:∃ q,w8.heap.size=q:=⟨_,rfl⟩;obtain ⟨V8,Io⟩:∃ V,w8.alloc (.cells #[.string jR,.string jS,.int .i64 jT,.int .i64 jU,.slice jV jW jX] 49)=V:=⟨_,rfl⟩
      have qO:Below w8.heap.size w8 V8:=by rw [← Io];exact (ah _ w8).alloc (ae _) _
      have nE:Hid (V8.heap[oO]?=some (.cells #[.string jR,.string jS,.int .i64 jT,.int .i64 jU,.slice jV jW jX] 49 (0,0))):=hid (by rw [← Io,← jf];exact aG w8 _);have lJ:Hid (Mv w8.heap.size d w8 V8):=hid (Mv.of_below qO);have jI:Hid (W1.heap.size≤w7.heap.size∧w7.heap.size≤w8.heap.size∧oO=w8.heap.size):=hid ⟨iK.out.size,iX.out.2.size,jf.symm⟩;rw [Io,jf];have lD:=hid ((iK.out.trans (iX.out.2.mono iK.out.size)).trans ((Mv.of_below qO).mono (aJ iK.out.size iX.out.2.size)));have uq:=hid (iX.out.1.below qO)
      skip
      clear Io qO jf;have pP:Hid (Mv V8.heap.size d V8 V8):=hid (Mv.refl _ _ _);have c9:=jc d L lv ox.at ox.az [41] V8 uq.out (HT1.out.mv lD.out (ae _)) (by have:=BP.out.le;omega);rw [Ih.out,show aX [41]=⟨#[41]⟩ from rfl] at c9
      go_wp2_with fail
      refine c9.mono ?_;rintro x w9 ⟨rfl,dU⟩;have jw:=hid (lD.out.trans (dU.2.mono lD.out.size));have zK:=hid dU.1;have qI:=hid (pP.out.trans (dU.2.mono pP.out.size));clear c9 dU;have mf:=(qI.out.block oO (af.1 nE.out).1 (by have:=jI.out;have:=dN.out.size;omega)).trans nE.out;obtain ⟨⟨wK,wL,wM,wN,wQ⟩,-⟩:=aF mf;have Tz:=hid mf;clear mf;obtain ⟨z,hz⟩:∃ z,w9.heap.size=z:=⟨_,rfl⟩;obtain ⟨Z,hZ⟩:∃ Z,w9.alloc (.cells #[.string jR,.string jS,.int .i64 jT,.int .i64 jU,.slice jV jW jX] 49)=Z:=⟨_,rfl⟩
      have hzb:Below w9.heap.size w9 Z:=by rw [← hZ];exact (ah _ w9).alloc (ae _) _
      have xJ:Hid (Z.heap[z]?=some (.cells #[.string jR,.string jS,.int .i64 jT,.int .i64 jU,.slice jV jW jX] 49 (0,0))):=hid (by rw [← hZ,← hz];exact aG w9 _);have qw:=hid (jw.out.trans ((Mv.of_below hzb).mono jw.out.size));have Bw:=hid (zK.out.below hzb);have EJ:=hid (Mv.of_below (d:=d) hzb);have HZ:=hid hz;have cz:=eZ d L lv om.at om.az ⟨#[110,101,119]⟩ ⟨#[]⟩ fr (some ⟨z,0,none⟩) 1 1 Z Bw.out (HT1.out.mv qw.out (ae _)) qx.out.le hL;obtain ⟨ez,jB⟩:∃ e,jZ L om.at=e:=⟨_,rfl⟩;rw [jB] at cz;have sN:=hid jB;rw [← hz] at cz;clear hzb jB hz
      go_wp2_with fail
      try rw [hZ]
      refine cz.mono ?_;rintro x w7 ⟨rfl,hw7⟩;have iK:=hid (qw.out.trans (hw7.2.mono qw.out.size));have oH:=(af.1 jC.out).1;have iZ:w7.heap[w.heap.size]?=_:=(iK.out.block w.heap.size oH (by omega)).trans jC.out;obtain ⟨⟨r0,r1,r2,r3,r4⟩,gz⟩:=aF iZ;have g0:=gz 0;have g1:=gz 1;have g2:=gz 2;have g3:=gz 3;have g4:=gz 4;have pY:=hid iZ;have sI:=hid hw7;have xF:=hid hZ;clear cz hw7 iZ gz hZ wK wL wM wN wQ
      go_wp2_with fail
      have hp:=dR (a':=.string ⟨#[110,101,119]⟩) (b':=.string ⟨#[]⟩) (c':=.int .i64 fr) (d':=.int .i64 ez) (e':=.slice (some ⟨w9.heap.size,0,none⟩) 1 1) pY.out;refine aA (v:=.agg #[.string ⟨#[110,101,119]⟩,.string ⟨#[]⟩,.int .i64 fr,.int .i64 ez,.slice (some ⟨w9.heap.size,0,none⟩) 1 1]) (aQ rfl _ _ w.heap.size 49 #[.string ⟨#[110,101,119]⟩,.string ⟨#[]⟩,.int .i64 fr,.int .i64 ez,.slice (some ⟨w9.heap.size,0,none⟩) 1 1] (0,0) _ (by rfl) hp Tryz.underlying49 rfl (by kernel_rfl)) rfl ?_;rw [← HQ.out];refine dM hd (dN.out.trans (iK.out.mono dN.out.size)) sI.out.1 HAT.out.1 HAT.out.2 ?_ ⟨ae _,ae _⟩;have hsz:=dN.out.size;have mQ:w7.heap[z]?=_:=(sI.out.2.block z (af.1 xJ.out).1 (by have:=jw.out.size;have:=HZ.out;omega)).trans xJ.out;rw [HZ.out];refine kM mQ (by have:=jw.out.size;have:=HZ.out;omega) (fun p j fK=>?_) (by omega) (ae _);obtain ⟨K,T,uQ,h0,hK,hT,AO,hx0⟩:=NI.out p j fK;refine ⟨K,T,[uQ],by rw [← sN.out];exact h0,hK,hT,rfl,?_⟩;obtain ⟨Mj,yx⟩:=rX.out uQ AO hx0;have Kj:Mv w8.heap.size d w8 w7:=lJ.out.trans (((qI.out.trans (EJ.out.mono qI.out.size)).trans (sI.out.2.mono (aJ qI.out.size EJ.out.size))).mono lJ.out.size);have Mk:=yx.later (R':=fun g=>w.heap.size<g) (Kj.still (ae _) (fun g hg=>by have:=jI.out;omega)) (fun g hg=>by have:=jI.out;omega)
      show aP w7 _ _ ([.string jR,.string jS,.int .i64 jT,.int .i64 jU,.slice jV jW jX]++[])
      rw [jE Mj]
      exact ⟨_,_,rfl,Mk,rfl⟩
     ·have q1:(sv.toList==[110,101,119])=false:=by rw [YF.out,lq,dS];exact h1
      by_cases h2:s=jL
      ·have q2:(sv.toList==[109,97,107,101])=true:=by rw [YF.out,h2,lq];decide
       obtain ⟨ox,hox⟩:∃ u,start false (i+1+1) (typed L m (i+1+1))=u:=⟨_,rfl⟩;obtain ⟨oc,hoc⟩:∃ u,start ox.az ox.at (bJ L [44] ox.at)=u:=⟨_,rfl⟩;obtain ⟨oe,hoe⟩:∃ u,start oc.az oc.at (expr L m 0 oc.at)=u:=⟨_,rfl⟩;obtain ⟨om,mH⟩:∃ u,start oe.az oe.at (bJ L [41] oe.at)=u:=⟨_,rfl⟩
       have nU:Hid (O=om.next fun _ q=>part L jL [] fr [ox.pt,oe.pt] q):=hid (by
        rw [uG.out,ai h1,au h2,← mH,← aZ (i+1+1) (typed L m (i+1+1)),hox]
        cases ox with
        | bad j=>subst hoc;subst hoe;rfl
        | ok x j =>
         have hoc:bJ L [44] j=oc:=hoc
         show ((bJ L [44] j).next fun _ q=>(expr L m 0 q).next fun e o=>(bJ L [41] o).next fun _ p=>part L jL [] fr [x,e] p)=_
         rw [hoc]
         cases oc with
         | bad j=>subst hoe;rfl
         | ok u k =>
          have hoe:expr L m 0 k=oe:=hoe
          show ((expr L m 0 k).next fun e o=>(bJ L [41] o).next fun _ p=>part L jL [] fr [x,e] p)=_
          rw [hoe]
          cases oe <;> rfl)
       have BP:Hid (pI L (i+1+1) false ox):=hid (by rw [← hox];exact .begun hil (jq m _ hil).toFw);have Wv:Hid (pI L (i+1+1) false oc):=hid (by rw [← hoc];exact BP.out.step (bU _ BP.out.le).toFw);have xC:Hid (pI L (i+1+1) false oe):=hid (by rw [← hoe];exact Wv.out.step ((iH m).expr _ Wv.out.le _).toFw);have qx:Hid (pI L (i+1+1) false om):=hid (by rw [← mH];exact xC.out.step (bU _ xC.out.le).toFw);have HAT:Hid (O.at=om.at∧O.az=om.az):=hid (by rw [nU.out];exact Eb _)
       have NI:Hid (∀ p j,O=.ok p j→∃ K T uQ KG,p=.mk K T fr (jZ L om.at) [uQ,KG]∧aX K=⟨#[109,97,107,101]⟩∧aX T=⟨#[]⟩∧∃ AO,ox=.ok uQ AO∧∃ TE,oe=.ok KG TE):=hid (by
        intro p j fK;rw [nU.out] at fK;obtain ⟨h2,h3⟩:=NL fK;rw [← mH] at h2;have h4:=(jl h2).1;have h5:=h4;rw [← hoe] at h5;have h6:=(jl h5).1;rw [← hoc] at h6
        exact ⟨_,_,_,_,h3,rfl,rfl,_,jF (jl h6).1,_,jF h4⟩)
       have Hox:=hid hox;have Hoc:=hid hoc;have Zu:=hid hoe;have Ih:=hid mH;clear hox hoc hoe mH h1 h2;have c8:=ui d L lv hL m (i+1+1) false w7 sH.out (HT1.out.mv iK.out (ae _)) NN.out.le (fun _=>by have:=NN.out.ge;omega);rw [Hox.out] at c8
       go_wp2_with fail
       refine c8.mono ?_;rintro x w8 ⟨v,rfl,⟨jR,jS,jT,jU,jV,jW,jX,rfl,kT,nD⟩,hw8⟩;have rX:=hid nD;have xK:=hid kT;clear kT;have iX:=hid hw8;clear c8 nD hw8
       go_upto_region 23 with fail
       obtain ⟨oO,jf⟩:∃ q,w8.heap.size=q:=⟨_,rfl⟩;obtain ⟨V8,Io⟩:∃ V,w8.alloc (.cells #[.string jR,.string jS,.int .i64 jT,.int .i64 jU,.slice jV jW jX] 49)=V:=⟨_,rfl⟩
       have qO:Below w8.heap.size w8 V8:=by rw [← Io];exact (ah _ w8).alloc (ae _) _
       have nE:Hid (V8.heap[oO]?=some (.cells #[.string jR,.string jS,.int .i64 jT,.int .i64 jU,.slice jV jW jX] 49 (0,0))):=hid (by rw [← Io,← jf];exact aG w8 _);have lJ:Hid (Mv w8.heap.size d w8 V8):=hid (Mv.of_below qO);have jI:Hid (W1.heap.size≤w7.heap.size∧w7.heap.size≤w8.heap.size∧oO=w8.heap.size):=hid ⟨iK.out.size,iX.out.2.size,jf.symm⟩;rw [Io,jf];have lD:=hid ((iK.out.trans (iX.out.2.mono iK.out.size)).trans ((Mv.of_below qO).mono (aJ iK.out.size iX.out.2.size)));have uq:=hid (iX.out.1.below qO)
       skip
       clear Io qO jf;have pP:Hid (Mv V8.heap.size d V8 V8):=hid (Mv.refl _ _ _);have c9:=jc d L lv ox.at ox.az [44] V8 uq.out (HT1.out.mv lD.out (ae _)) (by have:=BP.out.le;omega);rw [Hoc.out,show aX [44]=⟨#[44]⟩ from rfl] at c9
       go_wp2_with fail
       refine c9.mono ?_;rintro x w9 ⟨rfl,dU⟩;have jw:=hid (lD.out.trans (dU.2.mono lD.out.size));have zK:=hid dU.1;have qI:=hid (pP.out.trans (dU.2.mono pP.out.size));clear c9 dU;have c10:=HI.out m (ek _) 0 oc.at oc.az w9 zK.out (HT1.out.mv jw.out (ae _)) Wv.out.le (fun _=>by have:=Wv.out.ge;omega);rw [Zu.out] at c10
       go_wp2_with fail
       refine c10.mono ?_;rintro x q9 ⟨v,rfl,⟨F5,F6,F7,F8,F9,Ga,Gb,rfl,BA,Kn⟩,Ko⟩;have TF:=hid Kn;have Xu:=hid BA;clear BA;have uj:=hid Ko;clear c10 Kn Ko
       go_upto_region 25 with fail
       obtain ⟨TG,zL⟩:∃ q,q9.heap.size=q:=⟨_,rfl⟩;obtain ⟨wU,zM⟩:∃ V,q9.alloc (.cells #[.string F5,.string F6,.int .i64 F7,.int .i64 F8,.slice F9 Ga Gb] 49)=V:=⟨_,rfl⟩
       have rO:Below q9.heap.size q9 wU:=by rw [← zM];exact (ah _ q9).alloc (ae _) _
       have Kq:Hid (wU.heap[TG]?=some (.cells #[.string F5,.string F6,.int .i64 F7,.int .i64 F8,.slice F9 Ga Gb] 49 (0,0))):=hid (by rw [← zM,← zL];exact aG q9 _);have Kr:Hid (Mv q9.heap.size d q9 wU):=hid (Mv.of_below rO);have Ed:Hid (W1.heap.size≤w9.heap.size∧w9.heap.size≤q9.heap.size∧TG=q9.heap.size):=hid ⟨jw.out.size,uj.out.2.size,zL.symm⟩;rw [zM,zL];have rY:=hid ((jw.out.trans (uj.out.2.mono jw.out.size)).trans ((Mv.of_below rO).mono (aJ jw.out.size uj.out.2.size)));have yC:=hid (uj.out.1.below rO);have Cu:=hid (qI.out.trans ((uj.out.2.trans ((Mv.of_below rO).mono uj.out.2.size)).mono qI.out.size));clear zM rO zL;have NP:Hid (Mv wU.heap.size d wU wU):=hid (Mv.refl _ _ _);have c11:=jc d L lv oe.at oe.az [41] wU yC.out (HT1.out.mv rY.out (ae _)) (by have:=xC.out.le;omega);rw [Ih.out,show aX [41]=⟨#[41]⟩ from rfl] at c11
       go_wp2_with fail
       refine c11.mono ?_;rintro x Bn ⟨rfl,Df⟩;have Ip:=hid (rY.out.trans (Df.2.mono rY.out.size));have Zv:=hid Df.1;have qR:=hid (Cu.out.trans (Df.2.mono Cu.out.size));have Cv:=hid (NP.out.trans (Df.2.mono NP.out.size));clear c11 Df;have mf:=(qR.out.block oO (af.1 nE.out).1 (by have:=jI.out;have:=dN.out.size;omega)).trans nE.out;obtain ⟨⟨wK,wL,wM,wN,wQ⟩,-⟩:=aF mf;have Tz:=hid mf;clear mf;have EL:=(Cv.out.block TG (af.1 Kq.out).1 (by have:=Ed.out;have:=dN.out.size;omega)).trans Kq.out;obtain ⟨⟨TH,TI,TJ,TK,TM⟩,-⟩:=aF EL;have agc:=hid EL;clear EL;obtain ⟨z,hz⟩:∃ z,Bn.heap.size=z:=⟨_,rfl⟩;obtain ⟨Z,hZ⟩:∃ Z,Bn.alloc (.cells #[.string jR,.string jS,.int .i64 jT,.int .i64 jU,.slice jV jW jX,.string F5,.string F6,.int .i64 F7,.int .i64 F8,.slice F9 Ga Gb] 49)=Z:=⟨_,rfl⟩
       have hzb:Below Bn.heap.size Bn Z:=by rw [← hZ];exact (ah _ Bn).alloc (ae _) _
       have xJ:Hid (Z.heap[z]?=some (.cells #[.string jR,.string jS,.int .i64 jT,.int .i64 jU,.slice jV jW jX,.string F5,.string F6,.int .i64 F7,.int .i64 F8,.slice F9 Ga Gb] 49 (0,0))):=hid (by rw [← hZ,← hz];exact aG Bn _);have qw:=hid (Ip.out.trans ((Mv.of_below hzb).mono Ip.out.size));have Bw:=hid (Zv.out.below hzb);have EJ:=hid (Mv.of_below (d:=d) hzb);have HZ:=hid hz;have cz:=eZ d L lv om.at om.az ⟨#[109,97,107,101]⟩ ⟨#[]⟩ fr (some ⟨z,0,none⟩) 2 2 Z Bw.out (HT1.out.mv qw.out (ae _)) qx.out.le hL;obtain ⟨ez,jB⟩:∃ e,jZ L om.at=e:=⟨_,rfl⟩;rw [jB] at cz;have sN:=hid jB;rw [← hz] at cz;clear hzb jB hz
       go_wp2_with fail
       try rw [hZ]
       refine cz.mono ?_;rintro x w7 ⟨rfl,hw7⟩;have iK:=hid (qw.out.trans (hw7.2.mono qw.out.size));have oH:=(af.1 jC.out).1;have iZ:w7.heap[w.heap.size]?=_:=(iK.out.block w.heap.size oH (by omega)).trans jC.out;obtain ⟨⟨r0,r1,r2,r3,r4⟩,gz⟩:=aF iZ;have g0:=gz 0;have g1:=gz 1;have g2:=gz 2;have g3:=gz 3;have g4:=gz 4;have pY:=hid iZ;have sI:=hid hw7;have xF:=hid hZ;clear cz hw7 iZ gz hZ wK wL wM wN wQ TH TI TJ TK TM
       go_wp2_with fail
       have hp:=dR (a':=.string ⟨#[109,97,107,101]⟩) (b':=.string ⟨#[]⟩) (c':=.int .i64 fr) (d':=.int .i64 ez) (e':=.slice (some ⟨Bn.heap.size,0,none⟩) 2 2) pY.out;refine aA (v:=.agg #[.string ⟨#[109,97,107,101]⟩,.string ⟨#[]⟩,.int .i64 fr,.int .i64 ez,.slice (some ⟨Bn.heap.size,0,none⟩) 2 2]) (aQ rfl _ _ w.heap.size 49 #[.string ⟨#[109,97,107,101]⟩,.string ⟨#[]⟩,.int .i64 fr,.int .i64 ez,.slice (some ⟨Bn.heap.size,0,none⟩) 2 2] (0,0) _ (by rfl) hp Tryz.underlying49 rfl (by kernel_rfl)) rfl ?_;rw [← HQ.out];refine dM hd (dN.out.trans (iK.out.mono dN.out.size)) sI.out.1 HAT.out.1 HAT.out.2 ?_ ⟨ae _,ae _⟩;have hsz:=dN.out.size;have mQ:w7.heap[z]?=_:=(sI.out.2.block z (af.1 xJ.out).1 (by have:=Ip.out.size;have:=HZ.out;omega)).trans xJ.out;rw [HZ.out];refine kM mQ (by have:=Ip.out.size;have:=HZ.out;omega) (fun p j fK=>?_) (by omega) (ae _);obtain ⟨K,T,uQ,KG,h0,hK,hT,AO,hx0,TE,hx1⟩:=NI.out p j fK;refine ⟨K,T,[uQ,KG],by rw [← sN.out];exact h0,hK,hT,rfl,?_⟩;obtain ⟨Mj,yx⟩:=rX.out uQ AO hx0;have Kj:Mv w8.heap.size d w8 w7:=lJ.out.trans (((qR.out.trans (EJ.out.mono qR.out.size)).trans (sI.out.2.mono (aJ qR.out.size EJ.out.size))).mono lJ.out.size);have Mk:=yx.later (R':=fun g=>w.heap.size<g) (Kj.still (ae _) (fun g hg=>by have:=jI.out;omega)) (fun g hg=>by have:=jI.out;omega);obtain ⟨ux1,TN⟩:=TF.out KG TE hx1;have sx1:Mv q9.heap.size d q9 w7:=Kr.out.trans (((Cv.out.trans (EJ.out.mono Cv.out.size)).trans (sI.out.2.mono (aJ Cv.out.size EJ.out.size))).mono Kr.out.size)
       have ix1:=TN.later (R':=fun g=>w.heap.size<g) (sx1.still (ae _) (fun g hg=>by have:=Ed.out;omega)) (fun g hg=>by have:=Ed.out;omega)
       show aP w7 _ _ ([.string jR,.string jS,.int .i64 jT,.int .i64 jU,.slice jV jW jX]++[.string F5,.string F6,.int .i64 F7,.int .i64 F8,.slice F9 Ga Gb]++[])
       rw [jE Mj,jE ux1];simp only [dA]
       exact ⟨_,_,rfl,Mk,⟨_,_,rfl,ix1,rfl⟩⟩
      ·have q2:(sv.toList==[109,97,107,101])=false:=by rw [YF.out,lq,dS];exact h2
       obtain ⟨OL,BB⟩:∃ u,(if bH L [41] (i+1+1) then .ok [] (i+1+2) else args L m (i+1+1) [])=u:=⟨_,rfl⟩
       have nU:Hid (O=OL.next fun ks k=>part L mW s fr ks k):=hid (by
        rw [uG.out,ai h1,ai h2,← BB]
        cases bH L [41] (i+1+1) <;> rfl)
       have yD:Hid (O.at=OL.at∧O.az=OL.az):=hid (by rw [nU.out];cases OL <;> exact ⟨rfl,rfl⟩)
       have agd:Hid (∀ p j,O=.ok p j→∃ K T ks j',p=.mk K T fr (jZ L OL.at) ks∧aX K=⟨#[99,97,108,108]⟩∧aX T=sv∧OL=.ok ks j'):=hid (by
        intro p j fK;rw [nU.out] at fK
        cases OL with
        | bad j=>cases fK
        | ok ks k =>
         simp only [Out.next,part,Out.ok.injEq] at fK
         exact ⟨mW,s,ks,k,fK.1.symm,rfl,YF.out.symm,rfl⟩)
       obtain ⟨iP,hi0,hz0,hz1,hz2⟩:=nY AU;have c8:=fB d L lv (i+1+1) false [41] w7 sH.out (HT1.out.mv iK.out (ae _)) (by omega);rw [show aX [41]=⟨#[41]⟩ from rfl] at c8;obtain ⟨R3,Eu⟩:∃ R,bH L [41] (i+1+1)=R:=⟨_,rfl⟩;rw [show (!false&&bH L [41] (i+1+1))=R3 from Eu] at c8;rw [Eu] at BB;have HR3:=hid Eu;have Zw:=hid BB;clear Eu BB h1 h2
       go_wp2_with fail
       refine c8.mono ?_;rintro x w8 ⟨rfl,hw8⟩;have lD:=hid (iK.out.trans (hw8.2.mono iK.out.size))
       have Ee:Hid (jQ d L lv W1 OL (fun m j l=>args L m j l) (i+1+1) m R3 (.ok [] (if R3=true then i+1+1+1 else i+1+1)) (.slice none 0 0) 0 [] m w8):=hid ⟨by
         rw [← Zw.out]
         cases R3 <;> rfl,hw8.1,lD.out,dX.nil _ _ _,by
         show (if R3=true then i+1+1+1 else i+1+1)≤L.length
         cases hr:R3
         ·exact hil
         ·have h:=HR3.out
          rw [hr] at h
          exact bR h,by
         show i+1+1≤(if R3=true then i+1+1+1 else i+1+1)
         split <;> omega,by
         show 0+1≤(if R3=true then i+1+1+1 else i+1+1)
         split <;> omega,fun h _=>by
         rw [h]
         show 8*(L.length - (i+1+1))+5≤m∧m≤m
         omega⟩
       clear c8 hw8 q1 q2
       go_wp2_with fail
       go_loopw [12,13] (fun av fv wr=>∃ (fin:Bool) (o:Out (List Pt)) (v:Value) (nn:Nat) (xs:List Value) (mm:Nat),av=v∧fv=.bool fin∧Hid (jQ d L lv W1 OL (fun m j l=>args L m j l) (i+1+1) m fin o v nn xs mm wr)) (fun _ _ wr=>(L.length+1 - atR d wr)*2+nZ d wr)
       case atStart=>exact ⟨R3,_,_,0,[],m,rfl,rfl,Ee⟩
       case round =>
        clear Ee;obtain ⟨fin,o,v,nn,xs,mm,rfl,rfl,fC⟩:=hrel;obtain ⟨la,lc,Zx⟩:=fC.out.list.form;subst Zx
        cases fin
        focus
         cases fu:o.az
         ·skip
          obtain ⟨l,hl⟩:=yB fu;obtain ⟨oa,hoa⟩:∃ u,o.at=u:=⟨_,rfl⟩;rw [hoa] at hl;subst hl;have hfu2:=fC.out.fuel rfl rfl;have hle:oa≤L.length:=fC.out.le;have hlo:i+1+1≤oa:=fC.out.lo;have hcn:nn+1≤oa:=fC.out.cnt;have Zy:8*(L.length - oa)+5≤mm:=hfu2.1;have Zz:mm≤m:=hfu2.2;obtain ⟨m',rfl⟩:∃ m',mm=m'+1:=⟨mm - 1,by omega⟩;obtain ⟨ob,pO⟩:∃ u,start false oa (expr L m' 0 oa)=u:=⟨_,rfl⟩;have sQ:Hid (wI L oa ob):=hid (by rw [← pO,aZ];exact (iH m').expr oa hle 0)
          have yA:Hid (OL=ob.next fun a j=>if bH L [41] j then .ok (l++[a]) (j+1) else (bJ L [44] j).next fun _ k=>args L m' k (l++[a])):=hid (by
           have h:=fC.out.out;rw [ai (by decide)] at h;rw [h,← pO,aZ]
           exact FY L m' oa l)
          have Bz:=hid (HT1.out.mv fC.out.mv (ae _));have BQ:Hid (Rd d lv oa false wr):=hid fC.out.rd;have BC:Hid (dX W1.heap.size (.ok l oa) (.slice la nn lc) nn xs wr):=hid fC.out.list;have pQ:=hid fC.out.mv;have yD:Hid (atR d wr=oa):=hid BQ.out.at;have AV:Hid (nZ d wr=1):=hid BQ.out.good;have cb:=HI.out m' (by omega) 0 oa false wr BQ.out Bz.out hle (fun _=>by omega);rw [pO] at cb;have age:=hid pO;have k2:=BQ.out.c2;clear pO hfu2 fu hoa
          go_wp2_with fail
          refine cb.mono ?_;rintro x v5 ⟨v,rfl,⟨kb,tb,fb,eb,ab,nb,kQ,rfl,hnb,hvb⟩,jr⟩;have Ef:dX W1.heap.size (.ok l oa) (.slice la nn lc) nn xs (v5.alloc (.cells #[.string kb,.string tb,.int .i64 fb,.int .i64 eb,.slice ab nb kQ] 49)):=(BC.out.mv jr.2 (by have:=dN.out.size;omega)).mv (Mv.of_below (d:=d) ((ah _ v5).alloc (ae _) _)) (by have:=dN.out.size;omega);have hbx:Below v5.heap.size v5 (v5.alloc (.cells #[.string kb,.string tb,.int .i64 fb,.int .i64 eb,.slice ab nb kQ] 49)):=(ah _ v5).alloc (ae _) _
          have hsx:W1.heap.size≤(v5.alloc (.cells #[.string kb,.string tb,.int .i64 fb,.int .i64 eb,.slice ab nb kQ] 49)).heap.size:=by have:=jr.2.size;have:=pQ.out.size;have:=hbx.size;omega
          have Il:=hid hvb;have qE:=hid jr;have yE:=hid Ef;have xL:=hid hbx;clear cb hvb jr Ef hbx hnb k2
          go_wp2_with (at_builtin;refine dD _ rfl _ _ 47 rfl W1.heap.size 49 iP _ 5 72 Tryz.underlying47 hi0 hz0 hz1 hz2 rfl (by decide) _ nn xs rfl yE.out.own ⟨v5.heap.size,0,none⟩ 1 1 [.string kb,.string tb,.int .i64 fb,.int .i64 eb,.slice ab nb kQ] rfl rfl (qz (aG v5 _)) qy (by unfold maxLen;omega) (by omega) hsx ?_)
          intro v' w7 bP aN _ mg
          have hrow:v'.ownBlock=(Value.slice la nn lc).ownBlock∨v'.ownBlock=some (v5.alloc (.cells #[.string kb,.string tb,.int .i64 fb,.int .i64 eb,.slice ab nb kQ] 49)).heap.size:=by simpa using mg
          clear mg
          have Ew:Hid (∀ o':Out (List Pt),(∀ l' j',o'=.ok l' j'→∃ p jp,ob=.ok p jp∧l'=l++[p])→dX W1.heap.size o' v' (nn+1) (xs++[.string kb,.string tb,.int .i64 fb,.int .i64 eb,.slice ab nb kQ]) w7):=hid (fun o' ho'=>yE.out.snoc BC.out (ae _) pQ.out.size Il.out xL.out bP aN hrow (fun l' j' hl'=>by
           obtain ⟨p,jp,h1,h2⟩:=ho' l' j' hl'
           exact ⟨l,oa,p,jp,rfl,h1,h2⟩))
          have hown1:∀ k,(Value.slice la nn lc).ownBlock=some k→W1.heap.size≤k:=fun k hk=>(yE.out.own.lt k hk).1
          have hd1:d<W1.heap.size:=by have:=dN.out.size;omega
          have sH:Hid (Rd d lv ob.at ob.az w7):=hid (by
           have h:=qE.out.1.below xL.out
           exact (aN.block d h.lt (fun h'=>by have:=hown1 d h'.symm;omega)).trans h)
          have iK:Hid (Mv W1.heap.size d W1 w7):=hid (pQ.out.trans ((qE.out.2.mono pQ.out.size).trans (((Mv.of_below xL.out).mono (by have:=qE.out.2.size;have:=pQ.out.size;omega)).trans ⟨aN.os,aN.tape,aN.output,aN.size,fun k hk _=>aN.block k (by omega) (fun h'=>by have:=hown1 k h'.symm;omega)⟩)));have c8:=fB d L lv ob.at ob.az [41] w7 sH.out (HT1.out.mv iK.out (ae _)) (by have:=sQ.out.le;omega);rw [show aX [41]=⟨#[41]⟩ from rfl] at c8;obtain ⟨R9,Mr⟩:∃ R,(!ob.az&&bH L [41] ob.at)=R:=⟨_,rfl⟩;rw [Mr] at c8;have H9:=hid Mr;clear bP aN hrow hown1 hd1 Mr hsx
          cases R9
          ·obtain ⟨om,mH⟩:∃ u,start ob.az ob.at (bJ L [44] ob.at)=u:=⟨_,rfl⟩
           have Iq:Hid (ob.at≤om.at∧om.at≤L.length∧(om.az=false→ob.az=false∧ob.at<om.at)):=hid (by
            rw [← mH]
            cases hb:ob.az
            ·exact ⟨(bU _ sQ.out.le).ge,(bU _ sQ.out.le).le,fun h=>⟨rfl,(bU _ sQ.out.le).gt h⟩⟩
            ·exact ⟨ae _,sQ.out.le,fun h=>by cases h⟩)
           have uG:Hid (OL=(om.next fun _ k=>Out.ok (l++[ob.pt]) k).next fun acc k=>args L m' k acc):=hid (by
            rw [yA.out,qZ,← mH];have h9:=H9.out
            cases ob with
            | bad j=>rfl
            | ok a j =>
             have h9:bH L [41] j=false:=by simpa [Out.az,Out.at] using h9
             show (if bH L [41] j=true then _ else _)=_
             rw [ai (by rw [h9];decide)]
             rfl)
           have nU:Hid ((om.next fun _ k=>Out.ok (l++[ob.pt]) k).at=om.at∧(om.next fun _ k=>Out.ok (l++[ob.pt]) k).az=om.az):=hid (by cases om <;> exact ⟨rfl,rfl⟩)
           have IK:Hid (dX W1.heap.size (om.next fun _ k=>Out.ok (l++[ob.pt]) k) v' (nn+1) (xs++[.string kb,.string tb,.int .i64 fb,.int .i64 eb,.slice ab nb kQ]) w7):=hid (Ew.out _ (fun l' j' hl'=>by
            cases om with
            | bad k=>cases hl'
            | ok u k =>
             cases hl'
             exact ⟨ob.pt,ob.at,jF (Iq.out.2.2 rfl).1,rfl⟩))
           have Ih:=hid mH;clear mH
           go_wp2_with fail
           refine c8.mono ?_;rintro x w8 ⟨rfl,hw8⟩;have hw8:kz d lv ob.at ob.az w7 w8:=hw8;have lD:=hid (iK.out.trans (hw8.2.mono iK.out.size));have c9:=jc d L lv ob.at ob.az [44] w8 hw8.1 (HT1.out.mv lD.out (ae _)) (by have:=sQ.out.le;omega);rw [Ih.out,show aX [44]=⟨#[44]⟩ from rfl] at c9;have PT:=hid hw8;clear c8 hw8
           go_wp2_with fail
           refine c9.mono ?_;rintro x w9 ⟨rfl,dU⟩;have jw:=hid (lD.out.trans (dU.2.mono lD.out.size))
           have oJ:Hid (jQ d L lv W1 OL (fun m j l=>args L m j l) (i+1+1) (m) false (om.next fun _ k=>Out.ok (l++[ob.pt]) k) v' (nn+1) (xs++[.string kb,.string tb,.int .i64 fb,.int .i64 eb,.slice ab nb kQ]) m' w9):=hid ⟨by rw [ai (by decide)];exact uG.out,by rw [nU.out.1,nU.out.2];exact dU.1,jw.out,(IK.out.mv PT.out.2 (by have:=dN.out.size;omega)).mv dU.2 (by have:=dN.out.size;omega),by rw [nU.out.1];exact Iq.out.2.1,by rw [nU.out.1];have:=Iq.out.1;have:=sQ.out.ge;omega,by
            rw [nU.out.1,nU.out.2];have h1:=Iq.out.1;have h2:=sQ.out.ge
            cases hb:om.az
            ·have h3:=Iq.out.2.2 hb
             have h4:=sQ.out.gt h3.1;rw [ai (by decide)];omega
            ·rw [au rfl];omega,fun _ hb=>by
            rw [nU.out.2] at hb;rw [nU.out.1];have h3:=Iq.out.2.2 hb;have h4:=sQ.out.gt h3.1;have h5:=Iq.out.2.1
            omega⟩
           have sU:Hid (atR d w9=om.at∧nZ d w9=if om.az then 0 else 1):=hid ⟨dU.1.at,dU.1.good⟩;clear c9 dU
           go_wp2_with fail
           go_roundw
           case rel=>exact ⟨false,_,_,_,_,m',rfl,rfl,oJ⟩
           case measure =>
            rw [sU.out.1,sU.out.2,yD.out,AV.out];have h1:=Iq.out.1;have h2:=sQ.out.ge
            cases hb:om.az
            ·have h3:=Iq.out.2.2 hb
             have h4:=sQ.out.gt h3.1;rw [ai (by decide)];omega
            ·rw [au rfl];omega
          ·have oP:ob.az=false∧bH L [41] ob.at=true:=by simpa using H9.out
           have Lv:ob.at<L.length:=bR oP.2
           have uG:Hid (OL=.ok (l++[ob.pt]) (ob.at+1)):=hid (by
            rw [yA.out]
            cases ob with
            | bad j=>cases oP.1
            | ok a j =>
             show (if bH L [41] j=true then _ else _)=_
             rw [au (show bH L [41] j=true from oP.2)];rfl)
           have IK:Hid (dX W1.heap.size (Out.ok (l++[ob.pt]) (ob.at+1)) v' (nn+1) (xs++[.string kb,.string tb,.int .i64 fb,.int .i64 eb,.slice ab nb kQ]) w7):=hid (Ew.out _ (fun l' j' hl'=>by
            cases hl'
            exact ⟨ob.pt,ob.at,jF oP.1,rfl⟩))
           have vz:=hid oP;have ZA:=hid Lv;clear oP Lv
           go_wp2_with fail
           refine c8.mono ?_;rintro x w8 ⟨rfl,hw8⟩;have hw8:kz d lv (ob.at+1) ob.az w7 w8:=hw8;rw [vz.out.1] at hw8;have lD:=hid (iK.out.trans (hw8.2.mono iK.out.size));have oJ:Hid (jQ d L lv W1 OL (fun m j l=>args L m j l) (i+1+1) (m) true (Out.ok (l++[ob.pt]) (ob.at+1)) v' (nn+1) (xs++[.string kb,.string tb,.int .i64 fb,.int .i64 eb,.slice ab nb kQ]) m' w8):=hid ⟨by rw [au rfl];exact uG.out,hw8.1,lD.out,IK.out.mv hw8.2 (by have:=dN.out.size;omega),ZA.out,by show i+1+1≤ob.at+1;have:=sQ.out.ge;omega,by show nn+1+1≤ob.at+1;have:=sQ.out.gt vz.out.1;omega,fun h=>by cases h⟩;have sU:Hid (atR d w8=ob.at+1∧nZ d w8=1):=hid ⟨hw8.1.at,hw8.1.good⟩;clear c8 hw8
           go_wp2_with fail
           go_roundw
           case rel=>exact ⟨true,_,_,_,_,m',rfl,rfl,oJ⟩
           case measure =>
            rw [sU.out.1,sU.out.2,yD.out,AV.out];have h2:=sQ.out.ge
            omega
         have hox:OL=o:=by
          rw [fC.out.out,ai (by decide)]
          cases o with
          | ok a j=>cases fu
          | bad j=>rfl
         have hc2:=fC.out.rd.c2;rw [fu] at hc2
        rotate_left
        focus
         have hox:OL=o:=fC.out.out
        rotate_left
        all_goals
         subst hox;have HAT:=yD;have zN:=agd;have cz:=eZ d L lv OL.at OL.az ⟨#[99,97,108,108]⟩ sv fr la nn lc wr fC.out.rd (HT1.out.mv fC.out.mv (ae _)) fC.out.le hL;obtain ⟨ez,jB⟩:∃ u,jZ L OL.at=u:=⟨_,rfl⟩;rw [jB] at cz;have sN:=hid jB;clear jB
         go_wp2_with fail
         refine cz.mono ?_;rintro x wq ⟨rfl,hwq⟩;have Ct:=hid (fC.out.mv.trans (hwq.2.mono fC.out.mv.size));have EM:=hid hwq;have oH:=(af.1 jC.out).1;have iZ:wq.heap[w.heap.size]?=_:=(Ct.out.block w.heap.size oH (by omega)).trans jC.out;obtain ⟨⟨r0,r1,r2,r3,r4⟩,gz⟩:=aF iZ;have g0:=gz 0;have g1:=gz 1;have g2:=gz 2;have g3:=gz 3;have g4:=gz 4;have pY:=hid iZ;clear cz hwq iZ gz
         go_wp2_with fail
         have hp:=dR (a':=.string ⟨#[99,97,108,108]⟩) (b':=.string sv) (c':=.int .i64 fr) (d':=.int .i64 ez) (e':=.slice la nn lc) pY.out;refine aA (v:=.agg #[.string ⟨#[99,97,108,108]⟩,.string sv,.int .i64 fr,.int .i64 ez,.slice la nn lc]) (aQ rfl _ _ w.heap.size 49 #[.string ⟨#[99,97,108,108]⟩,.string sv,.int .i64 fr,.int .i64 ez,.slice la nn lc] (0,0) _ (by rfl) hp Tryz.underlying49 rfl (by kernel_rfl)) rfl ?_;rw [← HQ.out];refine dM hd (dN.out.trans (Ct.out.mono dN.out.size)) EM.out.1 HAT.out.1 HAT.out.2 ?_ ⟨ae _,ae _⟩;refine nO (fC.out.list.mv EM.out.2 (by omega)) (fun g hg=>by omega) (by have h1:=fC.out.cnt;have h2:=fC.out.le;split at h1 <;> omega) (fun p j fK=>?_);rw [← sN.out]
         exact zN.out p j fK
   ·have hb:b=false∧bH L [40] i=true:=by simpa using HC.out
    obtain ⟨rfl,his⟩:=hb;have hil:i<L.length:=bR his;obtain ⟨m,rfl⟩:∃ m,n=m+1:=⟨n - 1,by have:=HN.out (by trivial);omega⟩;have hfu:=HN.out rfl;obtain ⟨ob,fu⟩:∃ u,start false (i+1) (expr L m 0 (i+1))=u:=⟨_,rfl⟩;obtain ⟨om,mH⟩:∃ u,start ob.az ob.at (bJ L [41] ob.at)=u:=⟨_,rfl⟩
    have q8:Hid (O=ob.next fun e j=>(bJ L [41] j).next fun _ k=>.ok e k):=hid (by
     rw [← HO.out,← fu,aZ,aZ,oI,ai (by rw [show bT L 1 i=false by simpa using HA.out];decide),ai (by rw [show bT L 2 i=false by simpa using HB.out];decide),au his])
    have sP:Hid (pI L (i+1) false (Out.ok () (i+1):Out Unit)):=hid ⟨ae _,hil,fun _=>rfl⟩;have Eg:Hid (pI L (i+1) false ob):=hid (by rw [← fu];exact .begun hil ((iH m).expr _ hil _).toFw);have qx:Hid (pI L (i+1) false om):=hid (by rw [← mH];exact Eg.out.step (bU _ Eg.out.le).toFw)
    have HAT:Hid (O.at=om.at∧O.az=om.az):=hid (by
     rw [q8.out,← mH]
     cases ob with
     | bad j=>exact ⟨rfl,rfl⟩
     | ok x j =>
      show ((bJ L [41] j).next fun _ k=>Out.ok x k).at=(bJ L [41] j).at∧((bJ L [41] j).next fun _ k=>Out.ok x k).az=(bJ L [41] j).az
      cases bJ L [41] j <;> exact ⟨rfl,rfl⟩)
    have ZB:Hid (∀ p j,O=.ok p j→∃ j',ob=.ok p j'):=hid (by
     intro p j fK;rw [q8.out] at fK
     cases ob with
     | bad j=>cases fK
     | ok x j' =>
      refine ⟨j',?_⟩;have fK:((bJ L [41] j').next fun _ k=>Out.ok x k)=.ok p j:=fK
      cases hm:bJ L [41] j' with
      | bad k=>rw [hm] at fK;cases fK
      | ok a k=>rw [hm] at fK;cases fK;rfl)
    have Xv:=hid fu;have Ih:=hid mH;clear fu mH his
    go_wp2_with fail
    refine c4.mono ?_;rintro x w5 ⟨rfl,jr⟩;have jr:kz d lv (i+1) false w4 w5:=jr;have mU:=hid (mO.out.trans (jr.2.mono mO.out.size));have vD:=hid jr.1;clear c4 jr;have c6:=HI.out m (ek _) 0 (i+1) false w5 vD.out (HT1.out.mv mU.out (ae _)) sP.out.le (fun _=>by have:=sP.out.ge;omega);rw [Xv.out] at c6
    go_wp2_with fail
    refine c6.mono ?_;rintro x w6 ⟨v,rfl,⟨jR,jS,jT,jU,jV,jW,jX,rfl,kT,nD⟩,xz⟩;have rX:=hid nD;have xK:=hid kT;clear kT;have iX:=hid xz;clear c6 nD xz
    go_upto_region 11 with fail
    obtain ⟨oO,jf⟩:∃ q,w6.heap.size=q:=⟨_,rfl⟩;obtain ⟨V6,hV6⟩:∃ V,w6.alloc (.cells #[.string jR,.string jS,.int .i64 jT,.int .i64 jU,.slice jV jW jX] 49)=V:=⟨_,rfl⟩
    have hb6:Below w6.heap.size w6 V6:=by rw [← hV6];exact (ah _ w6).alloc (ae _) _
    have nE:Hid (V6.heap[oO]?=some (.cells #[.string jR,.string jS,.int .i64 jT,.int .i64 jU,.slice jV jW jX] 49 (0,0))):=hid (by rw [← hV6,← jf];exact aG w6 _);have lJ:Hid (Mv w6.heap.size d w6 V6):=hid (Mv.of_below hb6);have jI:Hid (W1.heap.size≤w5.heap.size∧w5.heap.size≤w6.heap.size∧oO=w6.heap.size):=hid ⟨mU.out.size,iX.out.2.size,jf.symm⟩;rw [hV6,jf];have oq:=hid ((mU.out.trans (iX.out.2.mono mU.out.size)).trans ((Mv.of_below hb6).mono (aJ mU.out.size iX.out.2.size)));have Ao:=hid (iX.out.1.below hb6)
    skip
    clear hV6 hb6 jf;have TP:Hid (Mv V6.heap.size d V6 V6):=hid (Mv.refl _ _ _);have c7:=jc d L lv ob.at ob.az [41] V6 Ao.out (HT1.out.mv oq.out (ae _)) (by have:=Eg.out.le;omega);rw [Ih.out,show aX [41]=⟨#[41]⟩ from rfl] at c7
    go_wp2_with fail
    refine c7.mono ?_;rintro x w7 ⟨rfl,hw7⟩;have iK:=hid (oq.out.trans (hw7.2.mono oq.out.size));have sH:=hid hw7.1;have TQ:=hid (TP.out.trans (hw7.2.mono TP.out.size));clear c7 hw7;have mf:=(TQ.out.block oO (af.1 nE.out).1 (by have:=jI.out;have:=dN.out.size;omega)).trans nE.out;obtain ⟨⟨wK,wL,wM,wN,wQ⟩,-⟩:=aF mf;clear mf;have oH:=(af.1 jC.out).1;have iZ:w7.heap[w.heap.size]?=_:=(iK.out.block w.heap.size oH (by omega)).trans jC.out;obtain ⟨⟨r0,r1,r2,r3,r4⟩,gz⟩:=aF iZ;have g0:=gz 0;have g1:=gz 1;have g2:=gz 2;have g3:=gz 3;have g4:=gz 4;have pY:=hid iZ;clear gz iZ
    go_wp2_with fail
    have hp:=dR (a':=.string jR) (b':=.string jS) (c':=.int .i64 jT) (d':=.int .i64 jU) (e':=.slice jV jW jX) pY.out;refine aA (v:=.agg #[.string jR,.string jS,.int .i64 jT,.int .i64 jU,.slice jV jW jX]) (aQ rfl _ _ w.heap.size 49 #[.string jR,.string jS,.int .i64 jT,.int .i64 jU,.slice jV jW jX] (0,0) _ (by rfl) hp Tryz.underlying49 rfl (by kernel_rfl)) rfl ?_;rw [← HQ.out];refine dM hd (dN.out.trans (iK.out.mono dN.out.size)) sH.out HAT.out.1 HAT.out.2 ?_ ⟨ae _,ae _⟩;have hsz:=dN.out.size;refine ⟨_,_,_,_,_,_,_,rfl,xK.out,fun p j fK=>?_⟩;obtain ⟨j',hj'⟩:=ZB.out p j fK;obtain ⟨u1,u2⟩:=rX.out p j' hj';refine ⟨u1,?_⟩;have s1:Mv w6.heap.size d w6 w7:=lJ.out.trans (TQ.out.mono lJ.out.size)
    exact u2.later (R':=fun g=>w.heap.size<g) (s1.still (ae _) (fun g hg=>by have:=jI.out;omega)) (fun g hg=>by have:=jI.out;omega)
  skip
  have hb:b=false∧bT L 2 i=true:=by simpa using HB.out
  obtain ⟨rfl,his⟩:=hb;have hil:i<L.length:=gL his;obtain ⟨m,rfl⟩:∃ m,n=m+1:=⟨n - 1,by have:=HN.out (by trivial);omega⟩
  have q8:Hid (O=part L IU (dx L i) fr [] (i+1)):=hid (by
   rw [← HO.out,← AM.out,aZ,oI,ai (by rw [show bT L 1 i=false by simpa using HA.out];decide),au his])
  have h2:bT L 2 i=true:=his
  go_wp2_with fail
  refine c3.mono ?_;intro x w4 h4;obtain ⟨rfl,hw4⟩:=h4.went HR3.out;have mO:=hid (lh.out.trans (hw4.2.mono lh.out.size));have HR4:=hid hw4.1;have c4:=pN d L lv i false 2 w4 HR4.out (HT1.out.mv mO.out (ae _));rw [h2] at c4;clear c3 h4 hw4 his h2
  go_wp2_with fail
  refine c4.mono ?_;intro x w9 h4;obtain ⟨rfl,hw4⟩:=h4.went HR4.out;have jw:=hid (mO.out.trans (hw4.2.mono mO.out.size));have zK:=hid hw4.1;have k1:=zK.out.c1;have f1:=zK.out.f1;have e1:IntKind.i64.wrap ((i:Int)+1)=(i:Int)+1:=bq _ (by omega);obtain ⟨Ir,Iu⟩:∃ W,w9.setCell ⟨d,1,none⟩ (.int .i64 ((i:Int)+1))=W:=⟨_,rfl⟩
  have TR:Rd d lv (i+1) false Ir:=by rw [← Iu];exact zK.out.set1 ((i:Int)+1) (by simp)
  have TS:Mv W1.heap.size d W1 Ir:=by rw [← Iu];exact jw.out.trans ((Mv.refl _ _ _).setCell 1 _)
  have yC:=hid TR;have rY:=hid TS;clear c4 h4 hw4 TR TS
  go_upto_region 7 with fail
  try rw [Iu]
  have Iv:Ir.drew.heap[d]?=some (.cells #[lv,.int .i64 ((i:Int)+1),.bool false] 82 (0,0)):=yC.out;have Ms:=HT1.out.mv rY.out (ae _);obtain ⟨g,off,cap,hlv,hgd,t0,t1,t2,t3⟩:=lH (i:=i) Ms hil
  have Ap:Ir.drew.cell? ⟨g,off+i*4+1,none⟩=some (.string (aX (dx L i))):=by rw [NM hil];exact t1
  have hgw:g≠w.heap.size:=by
   obtain ⟨la,cap',h1,h2⟩:=HT0.out
   rcases h2 with h2|⟨g',off',h3,_,h5,_⟩
   ·rw [h2] at hil;exact absurd hil (aS _)
   ·rw [hlv,h3] at h1
    injection h1 with h1
    injection h1 with h1
    injection h1 with h1
    omega
  have hgz:g<Ir.drew.heap.size:=aY _ _ Ap;have HTV:Hid (Tk d L lv Ir.drew):=hid Ms;have EK:Hid (Rd d lv (i+1) false Ir.drew):=hid yC.out;have AA:Hid (Mv W1.heap.size d W1 Ir.drew):=hid (rY.out.drewN 1);obtain ⟨tx,htx⟩:∃ u,aX (dx L i)=u:=⟨_,rfl⟩;rw [htx] at Ap;have Mb:=hid htx;rw [hlv] at Iv;obtain ⟨ln,hln⟩:∃ u,L.length=u:=⟨_,rfl⟩;rw [hln] at Iv hil;have Uh:=hid hln;have HGZ:=hid hgz;have PU:=hid hlv
  have e2:IntKind.i64.wrap ((i:Int)+1 - 1)=(i:Int):=by rw [show (i:Int)+1 - 1=(i:Int) by omega];exact bq _ (by omega)
  have e3:IntKind.i64.wrap (i:Int)=(i:Int):=bq _ (by omega);obtain ⟨V,hV⟩:∃ V,Ir.drew=V:=⟨_,rfl⟩;clear t0 t1 t2 t3 Ms k1 f1 e1 Iu htx hln hgz hlv
  refine aK (S:=fun X=>X.heap[d]?=some (.cells #[.slice (some ⟨g,off,none⟩) ln cap,.int .i64 ((i:Int)+1),.bool false] 82 (0,0))∧X.cell? ⟨g,off+i*4+1,none⟩=some (.string tx)) (by kernel_rfl) ⟨Iv,Ap⟩ fun ag=>?_
  clear Iv Ap;rw [hV] at ag HTV EK AA HGZ ⊢;clear hV;refine OP.m 0 rfl (.pointer (some ⟨d,0,none⟩)) ag ?_;simp only [OP.s];refine OP.m 1 rfl (.string ⟨#[115,116,114]⟩) ag ?_;simp only [OP.s];refine OP.m 2 rfl (.pointer (some ⟨d,0,none⟩)) ag ?_;simp only [OP.s];refine OP.m 3 rfl (.pointer (some ⟨d,0,none⟩)) ag ?_;simp only [OP.s];refine OP.m 4 rfl (.pointer (some ⟨d,0,none⟩)) ag ?_;simp only [OP.s];refine OP.t 5 rfl (.slice (some ⟨g,off,none⟩) ln cap) (fun X hX=>by have q0:X.cell? ⟨d,0,none⟩=some (.slice (some ⟨g,off,none⟩) ln cap):=(by simp [World.cell?,hX.1]);have q1:X.cell? ⟨d,1,none⟩=some (.int .i64 ((i:Int)+1)):=(by simp [World.cell?,hX.1]);have q2:=hX.2;go_simp) ag ?_;simp only [OP.s];refine OP.m 6 rfl (.pointer (some ⟨d,0,none⟩)) ag ?_;simp only [OP.s];refine OP.m 7 rfl (.pointer (some ⟨d,0,none⟩)) ag ?_;simp only [OP.s];refine OP.m 8 rfl (.pointer (some ⟨d,1,none⟩)) ag ?_;simp only [OP.s];refine OP.t 9 rfl (.int .i64 ((i:Int)+1)) (fun X hX=>by have q0:X.cell? ⟨d,0,none⟩=some (.slice (some ⟨g,off,none⟩) ln cap):=(by simp [World.cell?,hX.1]);have q1:X.cell? ⟨d,1,none⟩=some (.int .i64 ((i:Int)+1)):=(by simp [World.cell?,hX.1]);have q2:=hX.2;go_simp) ag ?_;simp only [OP.s];refine OP.t 10 rfl (.int .i64 i) (fun X hX=>by go_simp) ag ?_;simp only [OP.s];refine OP.t 11 rfl (.pointer (some ⟨g,off+i*4,none⟩)) (fun X hX=>Ik 36 41 g off ln i cap X rfl rfl rfl hil) ag ?_;simp only [OP.s];refine OP.m 12 rfl (.pointer (some ⟨g,off+i*4+1,none⟩)) ag ?_;simp only [OP.s]
  refine OP.t 13 rfl (.string tx) (fun X hX=>by have q0:X.cell? ⟨d,0,none⟩=some (.slice (some ⟨g,off,none⟩) ln cap):=(by simp [World.cell?,hX.1]);have q1:X.cell? ⟨d,1,none⟩=some (.int .i64 ((i:Int)+1)):=(by simp [World.cell?,hX.1]);have q2:=hX.2;go_simp) ag ?_;simp only [OP.s];refine OP.m 14 rfl (.int .i64 fr) ag ?_;simp only [OP.s];have cP:=eZ d L lv (i+1) false ⟨#[115,116,114]⟩ tx fr none 0 0 V EK.out HTV.out (by have:=Uh.out;omega) hL;obtain ⟨ez,jB⟩:∃ u,jZ L (i+1)=u:=⟨_,rfl⟩;rw [jB] at cP;have sN:=hid jB;clear jB
  refine OP.r 15 rfl fun K hK=>?_
  go_simp
  go_at_call 66
  refine cP.mono ?_;rintro x wP ⟨rfl,wT⟩
  have hRP:wP.heap[d]?=some (.cells #[.slice (some ⟨g,off,none⟩) ln cap,.int .i64 ((i:Int)+1),.bool false] 82 (0,0)):=by have h:=wT.1;unfold Rd at h;rw [PU.out,Uh.out,show ((i+1:Nat):Int)=(i:Int)+1 by omega] at h;exact h
  have SK:wP.cell? ⟨g,off+i*4+1,none⟩=some (.string tx):=by rw [il (wT.2.block g HGZ.out hgd)];exact ag.2
  have PR:=hid (AA.out.trans (wT.2.mono AA.out.size));have FZ:=hid wT;clear cP wT;dsimp only;refine hK.out _ _ (⟨hRP,SK⟩) (fun jM=>?_)
  try simp only [OP.s]
  clear hK K;have hq8:wP.heap[w.heap.size]?=_:=(PR.out.block w.heap.size (af.1 jC.out).1 (by omega)).trans jC.out;obtain ⟨⟨r0,r1,r2,r3,r4⟩,gz⟩:=aF hq8;have g0:=gz 0;have g1:=gz 1;have g2:=gz 2;have g3:=gz 3;have g4:=gz 4;obtain ⟨WF,Ea,IJ,Km,-⟩:=gP (a':=.string ⟨#[115,116,114]⟩) (b':=.string tx) (c':=.int .i64 fr) (e':=.int .i64 ez) (f':=.slice none 0 0) hq8;have oK:WF.heap[d]?=some (.cells #[.slice (some ⟨g,off,none⟩) ln cap,.int .i64 ((i:Int)+1),.bool false] 82 (0,0))∧WF.cell? ⟨g,off+i*4+1,none⟩=some (.string tx):=⟨(Km d (by omega)).trans jM.1,by rw [il (Km g hgw)];exact jM.2⟩;have Ws:=hid IJ;have Ua:=hid Ea;clear gz hq8 IJ Km
  refine OP.r 16 rfl fun K hK=>?_
  go_simp
  refine hK.out _ _ (oK) (fun lS=>?_)
  try simp only [OP.s]
  clear hK K;clear r0 r1 r2 r3 r4 g0 g1 g2 g3 g4 Ea ag jM lS oK hRP SK;refine bz (by kernel_rfl) ?_ _
  go_wp2_with fail
  refine aA (v:=.agg #[.string ⟨#[115,116,114]⟩,.string tx,.int .i64 fr,.int .i64 ez,.slice none 0 0]) (aQ rfl _ _ w.heap.size 49 #[.string ⟨#[115,116,114]⟩,.string tx,.int .i64 fr,.int .i64 ez,.slice none 0 0] (0,0) _ (by rfl) Ws.out Tryz.underlying49 rfl (by kernel_rfl)) rfl ?_
 rotate_left
 focus
  skip
  have hb:b=false∧bT L 1 i=true:=by simpa using HA.out
  obtain ⟨rfl,his⟩:=hb;have hil:i<L.length:=gL his;obtain ⟨m,rfl⟩:∃ m,n=m+1:=⟨n - 1,by have:=HN.out (by trivial);omega⟩
  have q8:Hid (O=part L IQ (dx L i) fr [] (i+1)):=hid (by
   rw [← HO.out,← AM.out,aZ,oI,au his])
  have h2:bT L 2 i=false:=by
   rw [uh 1 hil] at his;rw [uh 2 hil]
   have h9:L[i].w=1:=by simpa using his
   rw [h9];decide
  go_wp2_with fail
  refine c2.mono ?_;intro x w3 h4;obtain ⟨rfl,hw4⟩:=h4.went HR2.out;have lh:=hid (kG.out.trans (hw4.2.mono kG.out.size));have HR3:=hid hw4.1;have c3:=pN d L lv i false 2 w3 HR3.out (HT1.out.mv lh.out (ae _));rw [h2] at c3;clear c2 h4 hw4 his h2
  go_wp2_with fail
  refine c3.mono ?_;intro x w9 h4;obtain ⟨rfl,hw4⟩:=h4.went HR3.out;have jw:=hid (lh.out.trans (hw4.2.mono lh.out.size));have zK:=hid hw4.1;have k1:=zK.out.c1;have f1:=zK.out.f1;have e1:IntKind.i64.wrap ((i:Int)+1)=(i:Int)+1:=bq _ (by omega);obtain ⟨Ir,Iu⟩:∃ W,w9.setCell ⟨d,1,none⟩ (.int .i64 ((i:Int)+1))=W:=⟨_,rfl⟩
  have TR:Rd d lv (i+1) false Ir:=by rw [← Iu];exact zK.out.set1 ((i:Int)+1) (by simp)
  have TS:Mv W1.heap.size d W1 Ir:=by rw [← Iu];exact jw.out.trans ((Mv.refl _ _ _).setCell 1 _)
  have yC:=hid TR;have rY:=hid TS;clear c3 h4 hw4 TR TS
  go_upto_region 7 with fail
  try rw [Iu]
  have Iv:Ir.drew.heap[d]?=some (.cells #[lv,.int .i64 ((i:Int)+1),.bool false] 82 (0,0)):=yC.out;have Ms:=HT1.out.mv rY.out (ae _);obtain ⟨g,off,cap,hlv,hgd,t0,t1,t2,t3⟩:=lH (i:=i) Ms hil
  have Ap:Ir.drew.cell? ⟨g,off+i*4+1,none⟩=some (.string (aX (dx L i))):=by rw [NM hil];exact t1
  have hgw:g≠w.heap.size:=by
   obtain ⟨la,cap',h1,h2⟩:=HT0.out
   rcases h2 with h2|⟨g',off',h3,_,h5,_⟩
   ·rw [h2] at hil;exact absurd hil (aS _)
   ·rw [hlv,h3] at h1
    injection h1 with h1
    injection h1 with h1
    injection h1 with h1
    omega
  have hgz:g<Ir.drew.heap.size:=aY _ _ Ap;have HTV:Hid (Tk d L lv Ir.drew):=hid Ms;have EK:Hid (Rd d lv (i+1) false Ir.drew):=hid yC.out;have AA:Hid (Mv W1.heap.size d W1 Ir.drew):=hid (rY.out.drewN 1);obtain ⟨tx,htx⟩:∃ u,aX (dx L i)=u:=⟨_,rfl⟩;rw [htx] at Ap;have Mb:=hid htx;rw [hlv] at Iv;obtain ⟨ln,hln⟩:∃ u,L.length=u:=⟨_,rfl⟩;rw [hln] at Iv hil;have Uh:=hid hln;have HGZ:=hid hgz;have PU:=hid hlv
  have e2:IntKind.i64.wrap ((i:Int)+1 - 1)=(i:Int):=by rw [show (i:Int)+1 - 1=(i:Int) by omega];exact bq _ (by omega)
  have e3:IntKind.i64.wrap (i:Int)=(i:Int):=bq _ (by omega);obtain ⟨V,hV⟩:∃ V,Ir.drew=V:=⟨_,rfl⟩;clear t0 t1 t2 t3 Ms k1 f1 e1 Iu htx hln hgz hlv
  refine aK (S:=fun X=>X.heap[d]?=some (.cells #[.slice (some ⟨g,off,none⟩) ln cap,.int .i64 ((i:Int)+1),.bool false] 82 (0,0))∧X.cell? ⟨g,off+i*4+1,none⟩=some (.string tx)) (by kernel_rfl) ⟨Iv,Ap⟩ fun ag=>?_
  clear Iv Ap;rw [hV] at ag HTV EK AA HGZ ⊢;clear hV;refine OP.m 0 rfl (.pointer (some ⟨d,0,none⟩)) ag ?_;simp only [OP.s];refine OP.m 1 rfl (.string ⟨#[110,117,109]⟩) ag ?_;simp only [OP.s];refine OP.m 2 rfl (.pointer (some ⟨d,0,none⟩)) ag ?_;simp only [OP.s];refine OP.m 3 rfl (.pointer (some ⟨d,0,none⟩)) ag ?_;simp only [OP.s];refine OP.m 4 rfl (.pointer (some ⟨d,0,none⟩)) ag ?_;simp only [OP.s];refine OP.t 5 rfl (.slice (some ⟨g,off,none⟩) ln cap) (fun X hX=>by have q0:X.cell? ⟨d,0,none⟩=some (.slice (some ⟨g,off,none⟩) ln cap):=(by simp [World.cell?,hX.1]);have q1:X.cell? ⟨d,1,none⟩=some (.int .i64 ((i:Int)+1)):=(by simp [World.cell?,hX.1]);have q2:=hX.2;go_simp) ag ?_;simp only [OP.s];refine OP.m 6 rfl (.pointer (some ⟨d,0,none⟩)) ag ?_;simp only [OP.s];refine OP.m 7 rfl (.pointer (some ⟨d,0,none⟩)) ag ?_;simp only [OP.s];refine OP.m 8 rfl (.pointer (some ⟨d,1,none⟩)) ag ?_;simp only [OP.s];refine OP.t 9 rfl (.int .i64 ((i:Int)+1)) (fun X hX=>by have q0:X.cell? ⟨d,0,none⟩=some (.slice (some ⟨g,off,none⟩) ln cap):=(by simp [World.cell?,hX.1]);have q1:X.cell? ⟨d,1,none⟩=some (.int .i64 ((i:Int)+1)):=(by simp [World.cell?,hX.1]);have q2:=hX.2;go_simp) ag ?_;simp only [OP.s];refine OP.t 10 rfl (.int .i64 i) (fun X hX=>by go_simp) ag ?_;simp only [OP.s];refine OP.t 11 rfl (.pointer (some ⟨g,off+i*4,none⟩)) (fun X hX=>Ik 36 41 g off ln i cap X rfl rfl rfl hil) ag ?_;simp only [OP.s];refine OP.m 12 rfl (.pointer (some ⟨g,off+i*4+1,none⟩)) ag ?_;simp only [OP.s]
  refine OP.t 13 rfl (.string tx) (fun X hX=>by have q0:X.cell? ⟨d,0,none⟩=some (.slice (some ⟨g,off,none⟩) ln cap):=(by simp [World.cell?,hX.1]);have q1:X.cell? ⟨d,1,none⟩=some (.int .i64 ((i:Int)+1)):=(by simp [World.cell?,hX.1]);have q2:=hX.2;go_simp) ag ?_;simp only [OP.s];refine OP.m 14 rfl (.int .i64 fr) ag ?_;simp only [OP.s];have cP:=eZ d L lv (i+1) false ⟨#[110,117,109]⟩ tx fr none 0 0 V EK.out HTV.out (by have:=Uh.out;omega) hL;obtain ⟨ez,jB⟩:∃ u,jZ L (i+1)=u:=⟨_,rfl⟩;rw [jB] at cP;have sN:=hid jB;clear jB
  refine OP.r 15 rfl fun K hK=>?_
  go_simp
  go_at_call 66
  refine cP.mono ?_;rintro x wP ⟨rfl,wT⟩
  have hRP:wP.heap[d]?=some (.cells #[.slice (some ⟨g,off,none⟩) ln cap,.int .i64 ((i:Int)+1),.bool false] 82 (0,0)):=by have h:=wT.1;unfold Rd at h;rw [PU.out,Uh.out,show ((i+1:Nat):Int)=(i:Int)+1 by omega] at h;exact h
  have SK:wP.cell? ⟨g,off+i*4+1,none⟩=some (.string tx):=by rw [il (wT.2.block g HGZ.out hgd)];exact ag.2
  have PR:=hid (AA.out.trans (wT.2.mono AA.out.size));have FZ:=hid wT;clear cP wT;dsimp only;refine hK.out _ _ (⟨hRP,SK⟩) (fun jM=>?_)
  try simp only [OP.s]
  clear hK K;have hq8:wP.heap[w.heap.size]?=_:=(PR.out.block w.heap.size (af.1 jC.out).1 (by omega)).trans jC.out;obtain ⟨⟨r0,r1,r2,r3,r4⟩,gz⟩:=aF hq8;have g0:=gz 0;have g1:=gz 1;have g2:=gz 2;have g3:=gz 3;have g4:=gz 4;obtain ⟨WF,Ea,IJ,Km,-⟩:=gP (a':=.string ⟨#[110,117,109]⟩) (b':=.string tx) (c':=.int .i64 fr) (e':=.int .i64 ez) (f':=.slice none 0 0) hq8;have oK:WF.heap[d]?=some (.cells #[.slice (some ⟨g,off,none⟩) ln cap,.int .i64 ((i:Int)+1),.bool false] 82 (0,0))∧WF.cell? ⟨g,off+i*4+1,none⟩=some (.string tx):=⟨(Km d (by omega)).trans jM.1,by rw [il (Km g hgw)];exact jM.2⟩;have Ws:=hid IJ;have Ua:=hid Ea;clear gz hq8 IJ Km
  refine OP.r 16 rfl fun K hK=>?_
  go_simp
  refine hK.out _ _ (oK) (fun lS=>?_)
  try simp only [OP.s]
  clear hK K;clear r0 r1 r2 r3 r4 g0 g1 g2 g3 g4 Ea ag jM lS oK hRP SK;refine bz (by kernel_rfl) ?_ _
  go_wp2_with fail
  refine aA (v:=.agg #[.string ⟨#[110,117,109]⟩,.string tx,.int .i64 fr,.int .i64 ez,.slice none 0 0]) (aQ rfl _ _ w.heap.size 49 #[.string ⟨#[110,117,109]⟩,.string tx,.int .i64 fr,.int .i64 ez,.slice none 0 0] (0,0) _ (by rfl) Ws.out Tryz.underlying49 rfl (by kernel_rfl)) rfl ?_
 rotate_left
 all_goals
  rw [← HQ.out,q8.out,← Ua.out];refine dM hd (dN.out.trans (PR.out.mono dN.out.size)) FZ.out.1 rfl rfl ?_ ⟨ae _,ae _⟩;refine ⟨_,_,_,_,_,_,_,rfl,by omega,fun p j fK=>?_⟩;simp only [part,Out.ok.injEq] at fK;obtain ⟨rfl,rfl⟩:=fK;rw [sN.out,← Mb.out]
  exact ⟨rfl,xu _ _ _ _ _ _⟩
theorem Mt (d:Nat) (L:List bn) (lv:Value) (hL:L.length≤1000000) (n:Nat):xw d L lv n∧wR d L lv n∧AP d L lv n:=by
 induction n using Nat.strongRecOn with
 | _ n ih =>
  have hO:xw d L lv n:=Im d L lv hL n (fun m hm=>(ih m hm).2.2)
  have hP:wR d L lv n:=Kl d L lv hL n (fun m hm=>(ih m (by omega)).2.1) (fun m hm=>by
   by_cases h:m<n
   ·exact (ih m h).1
   ·obtain rfl:m=n:=by omega
    exact hO) (fun m hm=>(ih m hm).2.2)
  refine ⟨hO,hP,PM d L lv hL n (fun m hm=>?_) (fun m hm=>(ih m hm).2.2)⟩
  by_cases h:m<n
  ·exact (ih m h).2.1
  ·obtain rfl:m=n:=by omega
   exact hP
theorem uk (d:Nat) (L:List bn) (lv:Value) (hL:L.length≤1000000) (n:Nat):AP d L lv n:=(Mt d L lv hL n).2.2
section
variable (L:List bn)
theorem Mw (i:Nat):block L 0 i=.bad i:=by rw [block]
theorem Mx (i:Nat) (acc:List Pt):stmts L 0 i acc=.bad i:=by rw [stmts]
theorem Ks (i:Nat):branch L 0 i=.bad i:=by rw [branch]
theorem PV (i:Nat):stmt L 0 i=.bad i:=by rw [stmt]
theorem Eh (n i:Nat):block L (n+1) i=(bJ L [123] i).next fun _ j=>(stmts L n (j+bE L j) []).next fun l k=>(bJ L [125] k).next fun _ m=>part L ou [] (bQ L i) l m:=by rw [block]
theorem yF (n i:Nat) (acc:List Pt):stmts L (n+1) i acc=if bH L [125] i then .ok acc i
  else (stmt L n i).next fun p j=>if bE L j=0∧bH L [125] j=false then .bad j else stmts L n (j+bE L j) (acc++[p]):=by rw [stmts]
theorem BD (n i:Nat):branch L (n+1) i=(bJ L kI i).next fun _ j=>(expr L n 0 j).next fun e k=>(block L n k).next fun b m =>
  if bH L mV m then
   if bH L kI (m+1) then (branch L n (m+1)).next fun o p=>part L kI [] (bQ L i) [e,b,o] p
   else (block L n (m+1)).next fun o p=>part L kI [] (bQ L i) [e,b,o] p
  else part L kI [] (bQ L i) [e,b] m:=by rw [branch]
theorem pR (n i:Nat):stmt L (n+1) i =
  if bH L jd i then iU L n i
  else if bH L kI i then branch L n i
  else if bH L [123] i then block L n i
  else if bH L lI i then (expr L n 0 (i+1)).next fun e j=>(block L n j).next fun b k=>part L lI [] (bQ L i) [e,b] k
  else if bH L dL i then
   if bT L 5 (i+1)∨bH L [125] (i+1) then part L dL [] (bQ L i) [] (i+1)
   else (expr L n 0 (i+1)).next fun e j=>part L dL [] (bQ L i) [e] j
  else (expr L n 0 i).next fun a j =>
   if bH L [61] j then (expr L n 0 (j+1)).next fun b k=>part L pU [] (bQ L i) [a,b] k
   else if bH L [58,61] j then (expr L n 0 (j+1)).next fun b k=>part L pV [] (bQ L i) [a,b] k
   else part L vK [] (bQ L i) [a] j:=by rw [stmt]
theorem kW {j:Nat} (hj:j≤L.length):j+bE L j≤L.length:=by have:=Tv L j;omega
structure Ww (n:Nat):Prop where
 block:∀ i,i≤L.length→wI L i (block L n i)
 stmts:∀ i,i≤L.length→∀ acc,Fw L i (stmts L n i acc)
 branch:∀ i,i≤L.length→wI L i (branch L n i)
 stmt:∀ i,i≤L.length→wI L i (stmt L n i)
theorem nG:∀ n,Ww L n
 | 0=>⟨fun i hi=>by rw [Mw];exact .bad hi,fun i hi _=>by rw [Mx];exact ⟨ae _,hi⟩,fun i hi=>by rw [Ks];exact .bad hi,fun i hi=>by rw [PV];exact .bad hi⟩
 | n+1=>by
  have ih:=nG n;have ie:=@iH L n
  refine ⟨fun i hi=>?_,fun i hi acc=>?_,fun i hi=>?_,fun i hi=>?_⟩
  ·rw [Eh]
   refine (bU _ hi).next fun _ j _ _ hj=>((ih.stmts _ (kW L hj) []).mono (Nat.le_add_right _ _)).next fun l k _ _ hk=>((bU _ hk).next fun _ m _ _ hm=>iG _ _ _ _ hm).toFw
  ·rw [yF]
   split
   ·exact .ok (ae _) hi _
   ·refine (((ih.stmt i hi).next fun p j _ _ hj=>?_)).toFw
    split
    ·exact ⟨ae _,hj⟩
    ·exact (ih.stmts _ (kW L hj) _).mono (Nat.le_add_right _ _)
  ·rw [BD]
   refine (bU _ hi).next fun _ j _ _ hj=>((ie.expr j hj 0).next fun e k _ _ hk=>((ih.block k hk).next fun b m _ _ hm=>?_).toFw).toFw
   split
   ·rename_i he
    have hm1:=bR he
    split
    ·exact ((ih.branch (m+1) hm1).next fun o p _ _ hp=>iG _ _ _ _ hp).toFw.mono (dY _)
    ·exact ((ih.block (m+1) hm1).next fun o p _ _ hp=>iG _ _ _ _ hp).toFw.mono (dY _)
   ·exact iG _ _ _ _ hm
  ·rw [pR]
   split
   ·exact zG n hi
   split
   ·exact ih.branch i hi
   split
   ·exact ih.block i hi
   split
   ·rename_i h
    have h1:=bR h
    exact (((ie.expr (i+1) h1 0).next fun e j _ _ hj=>((ih.block j hj).next fun b k _ _ hk=>iG _ _ _ _ hk).toFw)).toFw.strict (ek _)
   split
   ·rename_i h
    have h1:=bR h
    split
    ·exact .ok (ek _) h1 _
    ·exact (((ie.expr (i+1) h1 0).next fun e j _ _ hj=>iG _ _ _ _ hj)).toFw.strict (ek _)
   ·refine (ie.expr i hi 0).next fun a j _ _ hj=>?_
    split
    ·rename_i h
     exact ((ie.expr (j+1) (bR h) 0).next fun b k _ _ hk=>iG _ _ _ _ hk).toFw.mono (dY _)
    split
    ·rename_i h
     exact ((ie.expr (j+1) (bR h) 0).next fun b k _ _ hk=>iG _ _ _ _ hk).toFw.mono (dY _)
    ·exact iG _ _ _ _ hj
end
end T
end Go.Proofs.YtojoahlpgmnbnaaGreatDoor
