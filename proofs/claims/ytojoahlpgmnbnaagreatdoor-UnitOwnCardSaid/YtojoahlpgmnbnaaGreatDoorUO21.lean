/- What the claim needs of the texts TOperand, TGood. -/
import Derived.Test.YtojoahlpgmnbnaaGreatDoorUOOp
import Derived.Test.YtojoahlpgmnbnaaGreatDoorUO20
set_option maxRecDepth 20000
set_option maxHeartbeats 16000000
namespace Go.Proofs.YtojoahlpgmnbnaaGreatDoor
namespace T
open Go.RowKit
open Go.Lib hiding intOf
open U S L
theorem Np {L:List aZ} {i:Nat} (h:i<L.length):dz L i=L[i].t:=by unfold dz;rw [aC h]
theorem Hy (d:Nat) (L:List aZ) (lv:Value) (hL:L.length≤1000000) (n:Nat) (ih:∀ m,m<n→Au d L lv m):wW d L lv n:=by
 intro i b w hR hT hi hn;obtain ⟨O,hO⟩:∃ O,start b i (operand L n i)=O:=⟨_,rfl⟩;have HO:=hid hO;have HI:=hid ih;rw [hO];clear hO ih;have hd:=hR.lt;obtain ⟨W1,hW1⟩:∃ W1,w.alloc gB=W1:=⟨_,rfl⟩
 have hb1:Below w.heap.size w W1:=by rw [← hW1];exact (aj _ w).alloc (ae _) _
 have dP:=hid (Mv.of_below (d:=d) hb1)
 have hq1:W1.heap[w.heap.size]?=some (.cells #[.string ⟨#[]⟩,.string ⟨#[]⟩,.int .i64 0,.int .i64 0,.slice none 0 0] 49 (0,0)):=by rw [← hW1];exact aG w _
 have lL:Rd d lv i b W1:=hR.below hb1;have hT1:=hT.mv (Mv.of_below hb1) (ae _);have c1:=mZ d L lv i b W1 lL hT1;obtain ⟨fr,hfr⟩:∃ fr,bQ L i=fr:=⟨_,rfl⟩;rw [hfr] at c1;have Aq:=hid hfr;have HW1:=hid hW1;have jD:=hid hq1;have HR1:=hid lL;have HT1:=hid hT1;have HT0:=hid hT;have HN:=hid hn;obtain ⟨Q,hQ⟩:∃ Q,Reads d lv O w=Q:=⟨_,rfl⟩;have HQ:=hid hQ;rw [hQ];clear hW1 hq1 hb1 lL hT1 hfr hn hQ hR hT
 go_enter Tryz.func141,Tryz.ntmps141
 go_wp2_with fail
 rw [HW1.out];refine c1.mono ?_;intro x w2 h2;obtain ⟨rfl,hw2⟩:=h2.went HR1.out;have kG:=hid hw2.2;have HR2:=hid hw2.1;clear c1 h2 hw2;have c2:=pF d L lv i b 1 w2 HR2.out (HT1.out.mv kG.out (ae _));obtain ⟨RA,L6⟩:∃ R,(!b&&bT L 1 i)=R:=⟨_,rfl⟩;rw [L6] at c2;have HA:=hid L6;clear L6
 cases RA
 focus
  go_wp2_with fail
  refine c2.mono ?_;intro x w3 h3;obtain ⟨rfl,hw3⟩:=h3.went HR2.out;have lq:=hid (kG.out.trans (hw3.2.mono kG.out.size));have HR3:=hid hw3.1;have c3:=pF d L lv i b 2 w3 HR3.out (HT1.out.mv lq.out (ae _));obtain ⟨RB,Y8⟩:∃ R,(!b&&bT L 2 i)=R:=⟨_,rfl⟩;rw [Y8] at c3;have HB:=hid Y8;clear Y8 c2 h3 hw3
  cases RB
  ·go_wp2_with fail
   refine c3.mono ?_;intro x w4 h4;obtain ⟨rfl,hw4⟩:=h4.went HR3.out;have mJ:=hid (lq.out.trans (hw4.2.mono lq.out.size));have HR4:=hid hw4.1;have c4:=fE d L lv i b [40] w4 HR4.out (HT1.out.mv mJ.out (ae _)) (by omega);rw [show aU [40]=⟨#[40]⟩ from rfl] at c4;obtain ⟨RC,hRC⟩:∃ R,(!b&&bG L [40] i)=R:=⟨_,rfl⟩;rw [hRC] at c4;have HC:=hid hRC;clear hRC c3 h4 hw4
   cases RC
   ·obtain ⟨nm,hnm⟩:∃ u,start b i (gK L i)=u:=⟨_,rfl⟩
    have sJ:Hid (oZ L i b (start b i (Out.ok () i:Out Unit))):=hid (.begun hi ⟨ae _,hi⟩);have rQ:Hid (oZ L i b nm):=hid (by rw [← hnm];exact .begun hi (jw hi).toFw)
    have afL:Hid (nm.aA=false→nm.at=i+1∧b=false∧bT L 0 i=true):=hid (by
     rw [← hnm]
     cases b
     ·rw [aW]
      unfold gK
      cases bT L 0 i
      ·intro h;cases h
      ·exact fun _=>⟨rfl,rfl,rfl⟩
     ·intro h;cases h)
    have qW:Hid (b=false→∃ m,n=m+1∧O=nm.next fun s j =>
      if bG L [40] j=false then part L P9 s fr [] j
      else if s=pU then (typed L m (j+1)).next fun x k=>(bI L [41] k).next fun _ m=>part L pU [] fr [x] m
      else if s=jM then (typed L m (j+1)).next fun x k=>(bI L [44] k).next fun _ q=>(expr L m 0 q).next fun e o=>(bI L [41] o).next fun _ p=>part L jM [] fr [x,e] p
      else if bG L [41] (j+1) then part L mO s fr [] (j+2)
      else (args L m (j+1) []).next fun l k=>part L mO s fr l k):=hid (by
     rintro rfl;obtain ⟨m,rfl⟩:∃ m,n=m+1:=⟨n - 1,by have:=HN.out (by trivial);omega⟩;refine ⟨m,rfl,?_⟩
     rw [← HO.out,← Aq.out,← hnm,aW,aW,oz,ai (by rw [show bT L 1 i=false by simpa using HA.out];decide),ai (by rw [show bT L 2 i=false by simpa using HB.out];decide),ai (by rw [show bG L [40] i=false by simpa using HC.out];decide)])
    obtain ⟨sv,hsv⟩:∃ u,xy nm=u:=⟨_,rfl⟩;have TV:=hid hnm;have Tf:=hid hsv;clear hnm hsv
    go_wp2_with fail
    refine c4.mono ?_;rintro x w5 ⟨rfl,jA⟩;have jA:kz d lv i b w4 w5:=jA;have mK:=hid (mJ.out.trans (jA.2.mono mJ.out.size));have uV:=hid jA.1;clear c4 jA;have c6:=nH d L lv i b w5 uV.out (HT1.out.mv mK.out (ae _)) (by have:=sJ.out.le;omega);rw [TV.out,Tf.out] at c6
    go_wp2_with fail
    refine c6.mono ?_;rintro x w6 ⟨rfl,xe⟩;have nW:=hid (mK.out.trans (xe.2.mono mK.out.size));have Ad:=hid xe.1
    skip
    clear c6 xe;have c7:=fE d L lv nm.at nm.aA [40] w6 Ad.out (HT1.out.mv nW.out (ae _)) (by have:=rQ.out.le;omega);rw [show aU [40]=⟨#[40]⟩ from rfl] at c7;obtain ⟨RD,hRD⟩:∃ R,(!nm.aA&&bG L [40] nm.at)=R:=⟨_,rfl⟩;rw [hRD] at c7;have HD:=hid hRD;clear hRD
    cases RD
    ·have uo:Hid (O=nm.next fun s j=>part L P9 s fr [] j):=hid (by
      cases b
      ·obtain ⟨m,rfl,h⟩:=qW.out rfl
       rw [h];have hD:=HD.out
       cases nm with
       | bad j=>rfl
       | ok s j =>
        show (if bG L [40] j=false then _ else _)=_
        rw [ay (by simpa [Out.aA,Out.at] using hD)]
        rfl
      ·have h1:=HO.out
       have h2:=TV.out;rw [← h1,← h2]
       rfl)
     have HAT:Hid (O.at=nm.at∧O.aA=nm.aA):=hid (by rw [uo.out];exact DR)
     have Er:Hid (∀ {W:World} {R:Nat→Prop} (ez:Int),jY L nm.at=ez→qh W R O (.agg #[.string ⟨#[105,100]⟩,.string sv,.int .i64 fr,.int .i64 ez,.slice none 0 0])):=hid (by
      intro ez jC;rw [uo.out,← Tf.out]
      exact DN (K:=P9) jC)
     go_wp2_with fail
     refine c7.mono ?_;rintro x wq ⟨rfl,hwq⟩;have hwq:kz d lv nm.at nm.aA w6 wq:=hwq;have Ce:=hid (nW.out.trans (hwq.2.mono nW.out.size));have HRq:=hid hwq.1;have lF:=Ce;have tY:=HRq;clear c7 hwq;have qi:=lF;have cz:=eZ d L lv nm.at nm.aA ⟨#[105,100]⟩ sv fr none 0 0 wq tY.out (HT1.out.mv lF.out (ae _)) rQ.out.le hL;obtain ⟨ez,jC⟩:∃ e,jY L nm.at=e:=⟨_,rfl⟩;rw [jC] at cz;have sH:=hid jC;clear jC
     go_wp2_with fail
     refine cz.mono ?_;rintro x w7 ⟨rfl,hw7⟩;have iN:=hid (qi.out.trans (hw7.2.mono qi.out.size));have ow:=(af.1 jD.out).1;have jd:w7.heap[w.heap.size]?=_:=(iN.out.block w.heap.size ow (by omega)).trans jD.out;obtain ⟨⟨r0,r1,r2,r3,r4⟩,gz⟩:=aF jd;have g0:=gz 0;have g1:=gz 1;have g2:=gz 2;have g3:=gz 3;have g4:=gz 4;have pQ:=hid jd;have sD:=hid hw7;clear cz hw7 jd gz
     go_wp2_with fail
     have hp:=dS (a':=.string ⟨#[105,100]⟩) (b':=.string sv) (c':=.int .i64 fr) (d':=.int .i64 ez) (e':=.slice none 0 0) pQ.out;refine aB (v:=.agg #[.string ⟨#[105,100]⟩,.string sv,.int .i64 fr,.int .i64 ez,.slice none 0 0]) (aQ rfl _ _ w.heap.size 49 #[.string ⟨#[105,100]⟩,.string sv,.int .i64 fr,.int .i64 ez,.slice none 0 0] (0,0) _ (by rfl) hp Tryz.underlying49 rfl (by kernel_rfl)) rfl ?_;rw [← HQ.out];refine dO hd (dP.out.trans (iN.out.mono dP.out.size)) sD.out.1 HAT.out.1 HAT.out.2 ?_ ⟨ae _,ae _⟩
     exact Er.out _ sH.out
    ·have hD:nm.aA=false∧bG L [40] nm.at=true:=by simpa using HD.out
     obtain ⟨hat,hbf,hcm⟩:=afL.out hD.1;subst hbf;obtain ⟨m,rfl,TU⟩:=qW.out rfl;have hfu:=HN.out rfl;obtain ⟨s,hs⟩:=yf hD.1;rw [hat] at hs hD;have hil:i+1<L.length:=bR hD.2;have Yj:Hid (sv=aU s):=hid (by rw [← Tf.out,hs];rfl)
     have uo:Hid (O=if s=pU then (typed L m (i+1+1)).next fun x k=>(bI L [41] k).next fun _ q=>part L pU [] fr [x] q
      else if s=jM then (typed L m (i+1+1)).next fun x k=>(bI L [44] k).next fun _ q=>(expr L m 0 q).next fun e o=>(bI L [41] o).next fun _ p=>part L jM [] fr [x,e] p
      else if bG L [41] (i+1+1) then part L mO s fr [] (i+1+2)
      else (args L m (i+1+1) []).next fun l k=>part L mO s fr l k):=hid (by
      rw [TU,hs]
      show (if bG L [40] (i+1)=false then _ else _)=_
      rw [ai (by rw [hD.2];decide)])
     have Nq:Hid (oZ L (i+1+1) false (Out.ok () (i+1+1):Out Unit)):=hid ⟨ae _,hil,fun _=>rfl⟩
     go_wp2_with fail
     refine c7.mono ?_;rintro x w7 ⟨rfl,hw7⟩;have hw7:kz d lv (nm.at+1) nm.aA w6 w7:=hw7;rw [hs] at hw7;have hw7:kz d lv (i+1+1) false w6 w7:=hw7;have iN:=hid (nW.out.trans (hw7.2.mono nW.out.size));have sw:=hid hw7.1;clear c7 hw7 hD TU hs hat hcm
     by_cases h1:s=pU
     ·have q1:(sv.toList==[110,101,119])=true:=by rw [Yj.out,h1,lC];decide
      obtain ⟨ox,hox⟩:∃ u,start false (i+1+1) (typed L m (i+1+1))=u:=⟨_,rfl⟩;obtain ⟨om,mE⟩:∃ u,start ox.aA ox.at (bI L [41] ox.at)=u:=⟨_,rfl⟩
      have nM:Hid (O=om.next fun _ q=>part L pU [] fr [ox.pt] q):=hid (by
       rw [uo.out,ay h1,← mE,← aW (i+1+1) (typed L m (i+1+1)),hox]
       cases ox <;> rfl)
      have BB:Hid (oZ L (i+1+1) false ox):=hid (by rw [← hox];exact .begun hil (jy m _ hil).toFw);have qj:Hid (oZ L (i+1+1) false om):=hid (by rw [← mE];exact BB.out.step (bU _ BB.out.le).toFw);have HAT:Hid (O.at=om.at∧O.aA=om.aA):=hid (by rw [nM.out];exact DW _)
      have Ni:Hid (∀ p j,O=.ok p j→∃ K T uG,p=.mk K T fr (jY L om.at) [uG]∧aU K=⟨#[110,101,119]⟩∧aU T=⟨#[]⟩∧∃ Ar,ox=.ok uG Ar):=hid (by
       intro p j fQ;rw [nM.out] at fQ;obtain ⟨h2,h3⟩:=Nl fQ;rw [← mE] at h2
       exact ⟨_,_,_,h3,rfl,rfl,_,jG (jq h2).1⟩)
      have Hox:=hid hox;have Hq:=hid mE;clear hox mE h1;have c8:=tO d L lv hL m (i+1+1) false w7 sw.out (HT1.out.mv iN.out (ae _)) Nq.out.le (fun _=>by have:=Nq.out.ge;omega);rw [Hox.out] at c8
      go_wp2_with fail
      refine c8.mono ?_;rintro x w8 ⟨v,rfl,⟨jQ,jR,jS,jT,jU,jV,jW,rfl,kU,ng⟩,hw8⟩;have rU:=hid ng;have xA:=hid kU;clear kU;have jb:=hid hw8;clear c8 ng hw8
      go_upto_region 19 with fail
      obtain ⟨oG,ji⟩:∃ q,w8.heap.size=q:=⟨_,rfl⟩;obtain ⟨V8,Hz⟩:∃ V,w8.alloc (.cells #[.string jQ,.string jR,.int .i64 jS,.int .i64 jT,.slice jU jV jW] 49)=V:=⟨_,rfl⟩
      have qJ:Below w8.heap.size w8 V8:=by rw [← Hz];exact (aj _ w8).alloc (ae _) _
      have ni:Hid (V8.heap[oG]?=some (.cells #[.string jQ,.string jR,.int .i64 jS,.int .i64 jT,.slice jU jV jW] 49 (0,0))):=hid (by rw [← Hz,← ji];exact aG w8 _);have lK:Hid (Mv w8.heap.size d w8 V8):=hid (Mv.of_below qJ);have jJ:Hid (W1.heap.size≤w7.heap.size∧w7.heap.size≤w8.heap.size∧oG=w8.heap.size):=hid ⟨iN.out.size,jb.out.2.size,ji.symm⟩;rw [Hz,ji];have lF:=hid ((iN.out.trans (jb.out.2.mono iN.out.size)).trans ((Mv.of_below qJ).mono (aJ iN.out.size jb.out.2.size)));have tY:=hid (jb.out.1.below qJ)
      skip
      clear Hz qJ ji;have pI:Hid (Mv V8.heap.size d V8 V8):=hid (Mv.refl _ _ _);have c9:=jf d L lv ox.at ox.aA [41] V8 tY.out (HT1.out.mv lF.out (ae _)) (by have:=BB.out.le;omega);rw [Hq.out,show aU [41]=⟨#[41]⟩ from rfl] at c9
      go_wp2_with fail
      refine c9.mono ?_;rintro x w9 ⟨rfl,dV⟩;have kF:=hid (lF.out.trans (dV.2.mono lF.out.size));have zx:=hid dV.1;have qC:=hid (pI.out.trans (dV.2.mono pI.out.size));clear c9 dV;have ma:=(qC.out.block oG (af.1 ni.out).1 (by have:=jJ.out;have:=dP.out.size;omega)).trans ni.out;obtain ⟨⟨vY,vZ,wm,wu,wy⟩,-⟩:=aF ma;have Tg:=hid ma;clear ma;obtain ⟨z,hz⟩:∃ z,w9.heap.size=z:=⟨_,rfl⟩;obtain ⟨Z,hZ⟩:∃ Z,w9.alloc (.cells #[.string jQ,.string jR,.int .i64 jS,.int .i64 jT,.slice jU jV jW] 49)=Z:=⟨_,rfl⟩
      have hzb:Below w9.heap.size w9 Z:=by rw [← hZ];exact (aj _ w9).alloc (ae _) _
      have xz:Hid (Z.heap[z]?=some (.cells #[.string jQ,.string jR,.int .i64 jS,.int .i64 jT,.slice jU jV jW] 49 (0,0))):=hid (by rw [← hZ,← hz];exact aG w9 _);have qi:=hid (kF.out.trans ((Mv.of_below hzb).mono kF.out.size));have Bg:=hid (zx.out.below hzb);have Ex:=hid (Mv.of_below (d:=d) hzb);have HZ:=hid hz;have cz:=eZ d L lv om.at om.aA ⟨#[110,101,119]⟩ ⟨#[]⟩ fr (some ⟨z,0,none⟩) 1 1 Z Bg.out (HT1.out.mv qi.out (ae _)) qj.out.le hL;obtain ⟨ez,jC⟩:∃ e,jY L om.at=e:=⟨_,rfl⟩;rw [jC] at cz;have sH:=hid jC;rw [← hz] at cz;clear hzb jC hz
      go_wp2_with fail
      try rw [hZ]
      refine cz.mono ?_;rintro x w7 ⟨rfl,hw7⟩;have iN:=hid (qi.out.trans (hw7.2.mono qi.out.size));have ow:=(af.1 jD.out).1;have jd:w7.heap[w.heap.size]?=_:=(iN.out.block w.heap.size ow (by omega)).trans jD.out;obtain ⟨⟨r0,r1,r2,r3,r4⟩,gz⟩:=aF jd;have g0:=gz 0;have g1:=gz 1;have g2:=gz 2;have g3:=gz 3;have g4:=gz 4;have pQ:=hid jd;have sD:=hid hw7;have xq:=hid hZ;clear cz hw7 jd gz hZ vY vZ wm wu wy
      go_wp2_with fail
      have hp:=dS (a':=.string ⟨#[110,101,119]⟩) (b':=.string ⟨#[]⟩) (c':=.int .i64 fr) (d':=.int .i64 ez) (e':=.slice (some ⟨w9.heap.size,0,none⟩) 1 1) pQ.out;refine aB (v:=.agg #[.string ⟨#[110,101,119]⟩,.string ⟨#[]⟩,.int .i64 fr,.int .i64 ez,.slice (some ⟨w9.heap.size,0,none⟩) 1 1]) (aQ rfl _ _ w.heap.size 49 #[.string ⟨#[110,101,119]⟩,.string ⟨#[]⟩,.int .i64 fr,.int .i64 ez,.slice (some ⟨w9.heap.size,0,none⟩) 1 1] (0,0) _ (by rfl) hp Tryz.underlying49 rfl (by kernel_rfl)) rfl ?_;rw [← HQ.out];refine dO hd (dP.out.trans (iN.out.mono dP.out.size)) sD.out.1 HAT.out.1 HAT.out.2 ?_ ⟨ae _,ae _⟩;have hsz:=dP.out.size;have yA:w7.heap[z]?=_:=(sD.out.2.block z (af.1 xz.out).1 (by have:=kF.out.size;have:=HZ.out;omega)).trans xz.out;rw [HZ.out];refine kN yA (by have:=kF.out.size;have:=HZ.out;omega) (fun p j fQ=>?_) (by omega) (ae _);obtain ⟨K,T,uG,h0,hK,hT,Ar,hx0⟩:=Ni.out p j fQ;refine ⟨K,T,[uG],by rw [← sH.out];exact h0,hK,hT,rfl,?_⟩;obtain ⟨LW,xY⟩:=rU.out uG Ar hx0;have J4:Mv w8.heap.size d w8 w7:=lK.out.trans (((qC.out.trans (Ex.out.mono qC.out.size)).trans (sD.out.2.mono (aJ qC.out.size Ex.out.size))).mono lK.out.size);have LX:=xY.later (R':=fun g=>w.heap.size<g) (J4.still (ae _) (fun g hg=>by have:=jJ.out;omega)) (fun g hg=>by have:=jJ.out;omega)
      show aO w7 _ _ ([.string jQ,.string jR,.int .i64 jS,.int .i64 jT,.slice jU jV jW]++[])
      rw [jF LW]
      exact ⟨_,_,rfl,LX,rfl⟩
     ·have q1:(sv.toList==[110,101,119])=false:=by rw [Yj.out,lC,dU];exact h1
      by_cases h2:s=jM
      ·have q2:(sv.toList==[109,97,107,101])=true:=by rw [Yj.out,h2,lC];decide
       obtain ⟨ox,hox⟩:∃ u,start false (i+1+1) (typed L m (i+1+1))=u:=⟨_,rfl⟩;obtain ⟨oc,hoc⟩:∃ u,start ox.aA ox.at (bI L [44] ox.at)=u:=⟨_,rfl⟩;obtain ⟨oe,hoe⟩:∃ u,start oc.aA oc.at (expr L m 0 oc.at)=u:=⟨_,rfl⟩;obtain ⟨om,mE⟩:∃ u,start oe.aA oe.at (bI L [41] oe.at)=u:=⟨_,rfl⟩
       have nM:Hid (O=om.next fun _ q=>part L jM [] fr [ox.pt,oe.pt] q):=hid (by
        rw [uo.out,ai h1,ay h2,← mE,← aW (i+1+1) (typed L m (i+1+1)),hox]
        cases ox with
        | bad j=>subst hoc;subst hoe;rfl
        | ok x j =>
         have hoc:bI L [44] j=oc:=hoc
         show ((bI L [44] j).next fun _ q=>(expr L m 0 q).next fun e o=>(bI L [41] o).next fun _ p=>part L jM [] fr [x,e] p)=_
         rw [hoc]
         cases oc with
         | bad j=>subst hoe;rfl
         | ok u k =>
          have hoe:expr L m 0 k=oe:=hoe
          show ((expr L m 0 k).next fun e o=>(bI L [41] o).next fun _ p=>part L jM [] fr [x,e] p)=_
          rw [hoe]
          cases oe <;> rfl)
       have BB:Hid (oZ L (i+1+1) false ox):=hid (by rw [← hox];exact .begun hil (jy m _ hil).toFw);have V7:Hid (oZ L (i+1+1) false oc):=hid (by rw [← hoc];exact BB.out.step (bU _ BB.out.le).toFw);have xk:Hid (oZ L (i+1+1) false oe):=hid (by rw [← hoe];exact V7.out.step ((iK m).expr _ V7.out.le _).toFw);have qj:Hid (oZ L (i+1+1) false om):=hid (by rw [← mE];exact xk.out.step (bU _ xk.out.le).toFw);have HAT:Hid (O.at=om.at∧O.aA=om.aA):=hid (by rw [nM.out];exact DW _)
       have Ni:Hid (∀ p j,O=.ok p j→∃ K T uG Ks,p=.mk K T fr (jY L om.at) [uG,Ks]∧aU K=⟨#[109,97,107,101]⟩∧aU T=⟨#[]⟩∧∃ Ar,ox=.ok uG Ar∧∃ Tm,oe=.ok Ks Tm):=hid (by
        intro p j fQ;rw [nM.out] at fQ;obtain ⟨h2,h3⟩:=Nl fQ;rw [← mE] at h2;have h4:=(jq h2).1;have h5:=h4;rw [← hoe] at h5;have h6:=(jq h5).1;rw [← hoc] at h6
        exact ⟨_,_,_,_,h3,rfl,rfl,_,jG (jq h6).1,_,jG h4⟩)
       have Hox:=hid hox;have Hoc:=hid hoc;have Y9:=hid hoe;have Hq:=hid mE;clear hox hoc hoe mE h1 h2;have c8:=tO d L lv hL m (i+1+1) false w7 sw.out (HT1.out.mv iN.out (ae _)) Nq.out.le (fun _=>by have:=Nq.out.ge;omega);rw [Hox.out] at c8
       go_wp2_with fail
       refine c8.mono ?_;rintro x w8 ⟨v,rfl,⟨jQ,jR,jS,jT,jU,jV,jW,rfl,kU,ng⟩,hw8⟩;have rU:=hid ng;have xA:=hid kU;clear kU;have jb:=hid hw8;clear c8 ng hw8
       go_upto_region 23 with fail
       obtain ⟨oG,ji⟩:∃ q,w8.heap.size=q:=⟨_,rfl⟩;obtain ⟨V8,Hz⟩:∃ V,w8.alloc (.cells #[.string jQ,.string jR,.int .i64 jS,.int .i64 jT,.slice jU jV jW] 49)=V:=⟨_,rfl⟩
       have qJ:Below w8.heap.size w8 V8:=by rw [← Hz];exact (aj _ w8).alloc (ae _) _
       have ni:Hid (V8.heap[oG]?=some (.cells #[.string jQ,.string jR,.int .i64 jS,.int .i64 jT,.slice jU jV jW] 49 (0,0))):=hid (by rw [← Hz,← ji];exact aG w8 _);have lK:Hid (Mv w8.heap.size d w8 V8):=hid (Mv.of_below qJ);have jJ:Hid (W1.heap.size≤w7.heap.size∧w7.heap.size≤w8.heap.size∧oG=w8.heap.size):=hid ⟨iN.out.size,jb.out.2.size,ji.symm⟩;rw [Hz,ji];have lF:=hid ((iN.out.trans (jb.out.2.mono iN.out.size)).trans ((Mv.of_below qJ).mono (aJ iN.out.size jb.out.2.size)));have tY:=hid (jb.out.1.below qJ)
       skip
       clear Hz qJ ji;have pI:Hid (Mv V8.heap.size d V8 V8):=hid (Mv.refl _ _ _);have c9:=jf d L lv ox.at ox.aA [44] V8 tY.out (HT1.out.mv lF.out (ae _)) (by have:=BB.out.le;omega);rw [Hoc.out,show aU [44]=⟨#[44]⟩ from rfl] at c9
       go_wp2_with fail
       refine c9.mono ?_;rintro x w9 ⟨rfl,dV⟩;have kF:=hid (lF.out.trans (dV.2.mono lF.out.size));have zx:=hid dV.1;have qC:=hid (pI.out.trans (dV.2.mono pI.out.size));clear c9 dV;have c10:=HI.out m (eu _) 0 oc.at oc.aA w9 zx.out (HT1.out.mv kF.out (ae _)) V7.out.le (fun _=>by have:=V7.out.ge;omega);rw [Y9.out] at c10
       go_wp2_with fail
       refine c10.mono ?_;rintro x qX ⟨v,rfl,⟨FQ,FR,FT,FU,FV,FW,FX,rfl,Bi,J8⟩,J9⟩;have Tn:=hid J8;have Xd:=hid Bi;clear Bi;have tQ:=hid J9;clear c10 J8 J9
       go_upto_region 25 with fail
       obtain ⟨Tp,zy⟩:∃ q,qX.heap.size=q:=⟨_,rfl⟩;obtain ⟨wE,zB⟩:∃ V,qX.alloc (.cells #[.string FQ,.string FR,.int .i64 FT,.int .i64 FU,.slice FV FW FX] 49)=V:=⟨_,rfl⟩
       have rF:Below qX.heap.size qX wE:=by rw [← zB];exact (aj _ qX).alloc (ae _) _
       have Ka:Hid (wE.heap[Tp]?=some (.cells #[.string FQ,.string FR,.int .i64 FT,.int .i64 FU,.slice FV FW FX] 49 (0,0))):=hid (by rw [← zB,← zy];exact aG qX _);have Kb:Hid (Mv qX.heap.size d qX wE):=hid (Mv.of_below rF);have DY:Hid (W1.heap.size≤w9.heap.size∧w9.heap.size≤qX.heap.size∧Tp=qX.heap.size):=hid ⟨kF.out.size,tQ.out.2.size,zy.symm⟩;rw [zB,zy];have rV:=hid ((kF.out.trans (tQ.out.2.mono kF.out.size)).trans ((Mv.of_below rF).mono (aJ kF.out.size tQ.out.2.size)));have yg:=hid (tQ.out.1.below rF);have Cf:=hid (qC.out.trans ((tQ.out.2.trans ((Mv.of_below rF).mono tQ.out.2.size)).mono qC.out.size));clear zB rF zy;have Nr:Hid (Mv wE.heap.size d wE wE):=hid (Mv.refl _ _ _);have c11:=jf d L lv oe.at oe.aA [41] wE yg.out (HT1.out.mv rV.out (ae _)) (by have:=xk.out.le;omega);rw [Hq.out,show aU [41]=⟨#[41]⟩ from rfl] at c11
       go_wp2_with fail
       refine c11.mono ?_;rintro x A9 ⟨rfl,CV⟩;have H7:=hid (rV.out.trans (CV.2.mono rV.out.size));have Za:=hid CV.1;have qM:=hid (Cf.out.trans (CV.2.mono Cf.out.size));have Cg:=hid (Nr.out.trans (CV.2.mono Nr.out.size));clear c11 CV;have ma:=(qM.out.block oG (af.1 ni.out).1 (by have:=jJ.out;have:=dP.out.size;omega)).trans ni.out;obtain ⟨⟨vY,vZ,wm,wu,wy⟩,-⟩:=aF ma;have Tg:=hid ma;clear ma;have Ez:=(Cg.out.block Tp (af.1 Ka.out).1 (by have:=DY.out;have:=dP.out.size;omega)).trans Ka.out;obtain ⟨⟨Tq,Tt,Tu,Tv,Tw⟩,-⟩:=aF Ez;have afN:=hid Ez;clear Ez;obtain ⟨z,hz⟩:∃ z,A9.heap.size=z:=⟨_,rfl⟩;obtain ⟨Z,hZ⟩:∃ Z,A9.alloc (.cells #[.string jQ,.string jR,.int .i64 jS,.int .i64 jT,.slice jU jV jW,.string FQ,.string FR,.int .i64 FT,.int .i64 FU,.slice FV FW FX] 49)=Z:=⟨_,rfl⟩
       have hzb:Below A9.heap.size A9 Z:=by rw [← hZ];exact (aj _ A9).alloc (ae _) _
       have xz:Hid (Z.heap[z]?=some (.cells #[.string jQ,.string jR,.int .i64 jS,.int .i64 jT,.slice jU jV jW,.string FQ,.string FR,.int .i64 FT,.int .i64 FU,.slice FV FW FX] 49 (0,0))):=hid (by rw [← hZ,← hz];exact aG A9 _);have qi:=hid (H7.out.trans ((Mv.of_below hzb).mono H7.out.size));have Bg:=hid (Za.out.below hzb);have Ex:=hid (Mv.of_below (d:=d) hzb);have HZ:=hid hz;have cz:=eZ d L lv om.at om.aA ⟨#[109,97,107,101]⟩ ⟨#[]⟩ fr (some ⟨z,0,none⟩) 2 2 Z Bg.out (HT1.out.mv qi.out (ae _)) qj.out.le hL;obtain ⟨ez,jC⟩:∃ e,jY L om.at=e:=⟨_,rfl⟩;rw [jC] at cz;have sH:=hid jC;rw [← hz] at cz;clear hzb jC hz
       go_wp2_with fail
       try rw [hZ]
       refine cz.mono ?_;rintro x w7 ⟨rfl,hw7⟩;have iN:=hid (qi.out.trans (hw7.2.mono qi.out.size));have ow:=(af.1 jD.out).1;have jd:w7.heap[w.heap.size]?=_:=(iN.out.block w.heap.size ow (by omega)).trans jD.out;obtain ⟨⟨r0,r1,r2,r3,r4⟩,gz⟩:=aF jd;have g0:=gz 0;have g1:=gz 1;have g2:=gz 2;have g3:=gz 3;have g4:=gz 4;have pQ:=hid jd;have sD:=hid hw7;have xq:=hid hZ;clear cz hw7 jd gz hZ vY vZ wm wu wy Tq Tt Tu Tv Tw
       go_wp2_with fail
       have hp:=dS (a':=.string ⟨#[109,97,107,101]⟩) (b':=.string ⟨#[]⟩) (c':=.int .i64 fr) (d':=.int .i64 ez) (e':=.slice (some ⟨A9.heap.size,0,none⟩) 2 2) pQ.out;refine aB (v:=.agg #[.string ⟨#[109,97,107,101]⟩,.string ⟨#[]⟩,.int .i64 fr,.int .i64 ez,.slice (some ⟨A9.heap.size,0,none⟩) 2 2]) (aQ rfl _ _ w.heap.size 49 #[.string ⟨#[109,97,107,101]⟩,.string ⟨#[]⟩,.int .i64 fr,.int .i64 ez,.slice (some ⟨A9.heap.size,0,none⟩) 2 2] (0,0) _ (by rfl) hp Tryz.underlying49 rfl (by kernel_rfl)) rfl ?_;rw [← HQ.out];refine dO hd (dP.out.trans (iN.out.mono dP.out.size)) sD.out.1 HAT.out.1 HAT.out.2 ?_ ⟨ae _,ae _⟩;have hsz:=dP.out.size;have yA:w7.heap[z]?=_:=(sD.out.2.block z (af.1 xz.out).1 (by have:=H7.out.size;have:=HZ.out;omega)).trans xz.out;rw [HZ.out];refine kN yA (by have:=H7.out.size;have:=HZ.out;omega) (fun p j fQ=>?_) (by omega) (ae _);obtain ⟨K,T,uG,Ks,h0,hK,hT,Ar,hx0,Tm,hx1⟩:=Ni.out p j fQ;refine ⟨K,T,[uG,Ks],by rw [← sH.out];exact h0,hK,hT,rfl,?_⟩;obtain ⟨LW,xY⟩:=rU.out uG Ar hx0;have J4:Mv w8.heap.size d w8 w7:=lK.out.trans (((qM.out.trans (Ex.out.mono qM.out.size)).trans (sD.out.2.mono (aJ qM.out.size Ex.out.size))).mono lK.out.size);have LX:=xY.later (R':=fun g=>w.heap.size<g) (J4.still (ae _) (fun g hg=>by have:=jJ.out;omega)) (fun g hg=>by have:=jJ.out;omega);obtain ⟨ux1,Tx⟩:=Tn.out Ks Tm hx1;have sx1:Mv qX.heap.size d qX w7:=Kb.out.trans (((Cg.out.trans (Ex.out.mono Cg.out.size)).trans (sD.out.2.mono (aJ Cg.out.size Ex.out.size))).mono Kb.out.size)
       have ix1:=Tx.later (R':=fun g=>w.heap.size<g) (sx1.still (ae _) (fun g hg=>by have:=DY.out;omega)) (fun g hg=>by have:=DY.out;omega)
       show aO w7 _ _ ([.string jQ,.string jR,.int .i64 jS,.int .i64 jT,.slice jU jV jW]++[.string FQ,.string FR,.int .i64 FT,.int .i64 FU,.slice FV FW FX]++[])
       rw [jF LW,jF ux1];simp only [dC]
       exact ⟨_,_,rfl,LX,⟨_,_,rfl,ix1,rfl⟩⟩
      ·have q2:(sv.toList==[109,97,107,101])=false:=by rw [Yj.out,lC,dU];exact h2
       obtain ⟨OL,Bj⟩:∃ u,(if bG L [41] (i+1+1) then .ok [] (i+1+2) else args L m (i+1+1) [])=u:=⟨_,rfl⟩
       have nM:Hid (O=OL.next fun ks k=>part L mO s fr ks k):=hid (by
        rw [uo.out,ai h1,ai h2,← Bj]
        cases bG L [41] (i+1+1) <;> rfl)
       have yh:Hid (O.at=OL.at∧O.aA=OL.aA):=hid (by rw [nM.out];cases OL <;> exact ⟨rfl,rfl⟩)
       have afO:Hid (∀ p j,O=.ok p j→∃ K T ks j',p=.mk K T fr (jY L OL.at) ks∧aU K=⟨#[99,97,108,108]⟩∧aU T=sv∧OL=.ok ks j'):=hid (by
        intro p j fQ;rw [nM.out] at fQ
        cases OL with
        | bad j=>cases fQ
        | ok ks k =>
         simp only [Out.next,part,Out.ok.injEq] at fQ
         exact ⟨mO,s,ks,k,fQ.1.symm,rfl,Yj.out.symm,rfl⟩)
       obtain ⟨iP,hi0,hz0,hz1,hz2⟩:=nQ Ay;have c8:=fE d L lv (i+1+1) false [41] w7 sw.out (HT1.out.mv iN.out (ae _)) (by omega);rw [show aU [41]=⟨#[41]⟩ from rfl] at c8;obtain ⟨R3,Eh⟩:∃ R,bG L [41] (i+1+1)=R:=⟨_,rfl⟩;rw [show (!false&&bG L [41] (i+1+1))=R3 from Eh] at c8;rw [Eh] at Bj;have HR3:=hid Eh;have Zb:=hid Bj;clear Eh Bj h1 h2
       go_wp2_with fail
       refine c8.mono ?_;rintro x w8 ⟨rfl,hw8⟩;have lF:=hid (iN.out.trans (hw8.2.mono iN.out.size))
       have DZ:Hid (jP d L lv W1 OL (fun m j l=>args L m j l) (i+1+1) m R3 (.ok [] (if R3=true then i+1+1+1 else i+1+1)) (.slice none 0 0) 0 [] m w8):=hid ⟨by
         rw [← Zb.out]
         cases R3 <;> rfl,hw8.1,lF.out,dY.nil _ _ _,by
         show (if R3=true then i+1+1+1 else i+1+1)≤L.length
         cases hr:R3
         ·exact hil
         ·have h:=HR3.out
          rw [hr] at h
          exact bR h,by
         show i+1+1≤(if R3=true then i+1+1+1 else i+1+1)
         split <;> omega,by
         show 0+1≤(if R3=true then i+1+1+1 else i+1+1)
         split <;> omega,fun h _=>by
         rw [h]
         show 8*(L.length - (i+1+1))+5≤m∧m≤m
         omega⟩
       clear c8 hw8 q1 q2
       go_wp2_with fail
       go_loopw [12,13] (fun av fv wr=>∃ (fin:Bool) (o:Out (List Pt)) (v:Value) (nn:Nat) (xs:List Value) (mm:Nat),av=v∧fv=.bool fin∧Hid (jP d L lv W1 OL (fun m j l=>args L m j l) (i+1+1) m fin o v nn xs mm wr)) (fun _ _ wr=>(L.length+1 - atR d wr)*2+nR d wr)
       case atStart=>exact ⟨R3,_,_,0,[],m,rfl,rfl,DZ⟩
       case round =>
        clear DZ;obtain ⟨fin,o,v,nn,xs,mm,rfl,rfl,fG⟩:=hrel;obtain ⟨la,lc,Zc⟩:=fG.out.list.form;subst Zc
        cases fin
        focus
         cases fw:o.aA
         ·skip
          obtain ⟨l,hl⟩:=yf fw;obtain ⟨oa,hoa⟩:∃ u,o.at=u:=⟨_,rfl⟩;rw [hoa] at hl;subst hl;have hfu2:=fG.out.fuel rfl rfl;have hle:oa≤L.length:=fG.out.le;have hlo:i+1+1≤oa:=fG.out.lo;have hcn:nn+1≤oa:=fG.out.cnt;have Zd:8*(L.length - oa)+5≤mm:=hfu2.1;have Ze:mm≤m:=hfu2.2;obtain ⟨m',rfl⟩:∃ m',mm=m'+1:=⟨mm - 1,by omega⟩;obtain ⟨ob,pG⟩:∃ u,start false oa (expr L m' 0 oa)=u:=⟨_,rfl⟩;have sK:Hid (vW L oa ob):=hid (by rw [← pG,aW];exact (iK m').expr oa hle 0)
          have yc:Hid (OL=ob.next fun a j=>if bG L [41] j then .ok (l++[a]) (j+1) else (bI L [44] j).next fun _ k=>args L m' k (l++[a])):=hid (by
           have h:=fG.out.out;rw [ai (by decide)] at h;rw [h,← pG,aW]
           exact FM L m' oa l)
          have Bh:=hid (HT1.out.mv fG.out.mv (ae _));have BC:Hid (Rd d lv oa false wr):=hid fG.out.rd;have Bl:Hid (dY W1.heap.size (.ok l oa) (.slice la nn lc) nn xs wr):=hid fG.out.list;have pJ:=hid fG.out.mv;have yh:Hid (atR d wr=oa):=hid BC.out.at;have Az:Hid (nR d wr=1):=hid BC.out.good;have cb:=HI.out m' (by omega) 0 oa false wr BC.out Bh.out hle (fun _=>by omega);rw [pG] at cb;have afP:=hid pG;have k2:=BC.out.c2;clear pG hfu2 fw hoa
          go_wp2_with fail
          refine cb.mono ?_;rintro x v5 ⟨v,rfl,⟨kb,tb,fb,eb,ab,nb,kS,rfl,hnb,hvb⟩,jA⟩;have D3:dY W1.heap.size (.ok l oa) (.slice la nn lc) nn xs (v5.alloc (.cells #[.string kb,.string tb,.int .i64 fb,.int .i64 eb,.slice ab nb kS] 49)):=(Bl.out.mv jA.2 (by have:=dP.out.size;omega)).mv (Mv.of_below (d:=d) ((aj _ v5).alloc (ae _) _)) (by have:=dP.out.size;omega);have hbx:Below v5.heap.size v5 (v5.alloc (.cells #[.string kb,.string tb,.int .i64 fb,.int .i64 eb,.slice ab nb kS] 49)):=(aj _ v5).alloc (ae _) _
          have hsx:W1.heap.size≤(v5.alloc (.cells #[.string kb,.string tb,.int .i64 fb,.int .i64 eb,.slice ab nb kS] 49)).heap.size:=by have:=jA.2.size;have:=pJ.out.size;have:=hbx.size;omega
          have Hw:=hid hvb;have qA:=hid jA;have yj:=hid D3;have xB:=hid hbx;clear cb hvb jA D3 hbx hnb k2
          go_wp2_with (at_builtin;refine dG _ rfl _ _ 47 rfl W1.heap.size 49 iP _ 5 72 Tryz.underlying47 hi0 hz0 hz1 hz2 rfl (by decide) _ nn xs rfl yj.out.own ⟨v5.heap.size,0,none⟩ 1 1 [.string kb,.string tb,.int .i64 fb,.int .i64 eb,.slice ab nb kS] rfl rfl (qo (aG v5 _)) qm (by unfold maxLen;omega) (by omega) hsx ?_)
          intro v' w7 bY aP _ mf
          have hrow:v'.ownBlock=(Value.slice la nn lc).ownBlock∨v'.ownBlock=some (v5.alloc (.cells #[.string kb,.string tb,.int .i64 fb,.int .i64 eb,.slice ab nb kS] 49)).heap.size:=by simpa using mf
          clear mf
          have Ej:Hid (∀ o':Out (List Pt),(∀ l' j',o'=.ok l' j'→∃ p jp,ob=.ok p jp∧l'=l++[p])→dY W1.heap.size o' v' (nn+1) (xs++[.string kb,.string tb,.int .i64 fb,.int .i64 eb,.slice ab nb kS]) w7):=hid (fun o' ho'=>yj.out.snoc Bl.out (ae _) pJ.out.size Hw.out xB.out bY aP hrow (fun l' j' hl'=>by
           obtain ⟨p,jp,h1,h2⟩:=ho' l' j' hl'
           exact ⟨l,oa,p,jp,rfl,h1,h2⟩))
          have hown1:∀ k,(Value.slice la nn lc).ownBlock=some k→W1.heap.size≤k:=fun k hk=>(yj.out.own.lt k hk).1
          have hd1:d<W1.heap.size:=by have:=dP.out.size;omega
          have sw:Hid (Rd d lv ob.at ob.aA w7):=hid (by
           have h:=qA.out.1.below xB.out
           exact (aP.block d h.lt (fun h'=>by have:=hown1 d h'.symm;omega)).trans h)
          have iN:Hid (Mv W1.heap.size d W1 w7):=hid (pJ.out.trans ((qA.out.2.mono pJ.out.size).trans (((Mv.of_below xB.out).mono (by have:=qA.out.2.size;have:=pJ.out.size;omega)).trans ⟨aP.os,aP.tape,aP.output,aP.size,fun k hk _=>aP.block k (by omega) (fun h'=>by have:=hown1 k h'.symm;omega)⟩)));have c8:=fE d L lv ob.at ob.aA [41] w7 sw.out (HT1.out.mv iN.out (ae _)) (by have:=sK.out.le;omega);rw [show aU [41]=⟨#[41]⟩ from rfl] at c8;obtain ⟨R9,L8⟩:∃ R,(!ob.aA&&bG L [41] ob.at)=R:=⟨_,rfl⟩;rw [L8] at c8;have H9:=hid L8;clear bY aP hrow hown1 hd1 L8 hsx
          cases R9
          ·obtain ⟨om,mE⟩:∃ u,start ob.aA ob.at (bI L [44] ob.at)=u:=⟨_,rfl⟩
           have H8:Hid (ob.at≤om.at∧om.at≤L.length∧(om.aA=false→ob.aA=false∧ob.at<om.at)):=hid (by
            rw [← mE]
            cases hb:ob.aA
            ·exact ⟨(bU _ sK.out.le).ge,(bU _ sK.out.le).le,fun h=>⟨rfl,(bU _ sK.out.le).gt h⟩⟩
            ·exact ⟨ae _,sK.out.le,fun h=>by cases h⟩)
           have uo:Hid (OL=(om.next fun _ k=>Out.ok (l++[ob.pt]) k).next fun acc k=>args L m' k acc):=hid (by
            rw [yc.out,qV,← mE];have h9:=H9.out
            cases ob with
            | bad j=>rfl
            | ok a j =>
             have h9:bG L [41] j=false:=by simpa [Out.aA,Out.at] using h9
             show (if bG L [41] j=true then _ else _)=_
             rw [ai (by rw [h9];decide)]
             rfl)
           have nM:Hid ((om.next fun _ k=>Out.ok (l++[ob.pt]) k).at=om.at∧(om.next fun _ k=>Out.ok (l++[ob.pt]) k).aA=om.aA):=hid (by cases om <;> exact ⟨rfl,rfl⟩)
           have Ir:Hid (dY W1.heap.size (om.next fun _ k=>Out.ok (l++[ob.pt]) k) v' (nn+1) (xs++[.string kb,.string tb,.int .i64 fb,.int .i64 eb,.slice ab nb kS]) w7):=hid (Ej.out _ (fun l' j' hl'=>by
            cases om with
            | bad k=>cases hl'
            | ok u k =>
             cases hl'
             exact ⟨ob.pt,ob.at,jG (H8.out.2.2 rfl).1,rfl⟩))
           have Hq:=hid mE;clear mE
           go_wp2_with fail
           refine c8.mono ?_;rintro x w8 ⟨rfl,hw8⟩;have hw8:kz d lv ob.at ob.aA w7 w8:=hw8;have lF:=hid (iN.out.trans (hw8.2.mono iN.out.size));have c9:=jf d L lv ob.at ob.aA [44] w8 hw8.1 (HT1.out.mv lF.out (ae _)) (by have:=sK.out.le;omega);rw [Hq.out,show aU [44]=⟨#[44]⟩ from rfl] at c9;have Px:=hid hw8;clear c8 hw8
           go_wp2_with fail
           refine c9.mono ?_;rintro x w9 ⟨rfl,dV⟩;have kF:=hid (lF.out.trans (dV.2.mono lF.out.size))
           have oC:Hid (jP d L lv W1 OL (fun m j l=>args L m j l) (i+1+1) (m) false (om.next fun _ k=>Out.ok (l++[ob.pt]) k) v' (nn+1) (xs++[.string kb,.string tb,.int .i64 fb,.int .i64 eb,.slice ab nb kS]) m' w9):=hid ⟨by rw [ai (by decide)];exact uo.out,by rw [nM.out.1,nM.out.2];exact dV.1,kF.out,(Ir.out.mv Px.out.2 (by have:=dP.out.size;omega)).mv dV.2 (by have:=dP.out.size;omega),by rw [nM.out.1];exact H8.out.2.1,by rw [nM.out.1];have:=H8.out.1;have:=sK.out.ge;omega,by
            rw [nM.out.1,nM.out.2];have h1:=H8.out.1;have h2:=sK.out.ge
            cases hb:om.aA
            ·have h3:=H8.out.2.2 hb
             have h4:=sK.out.gt h3.1;rw [ai (by decide)];omega
            ·rw [ay rfl];omega,fun _ hb=>by
            rw [nM.out.2] at hb;rw [nM.out.1];have h3:=H8.out.2.2 hb;have h4:=sK.out.gt h3.1;have h5:=H8.out.2.1
            omega⟩
           have sO:Hid (atR d w9=om.at∧nR d w9=if om.aA then 0 else 1):=hid ⟨dV.1.at,dV.1.good⟩;clear c9 dV
           go_wp2_with fail
           go_roundw
           case rel=>exact ⟨false,_,_,_,_,m',rfl,rfl,oC⟩
           case measure =>
            rw [sO.out.1,sO.out.2,yh.out,Az.out];have h1:=H8.out.1;have h2:=sK.out.ge
            cases hb:om.aA
            ·have h3:=H8.out.2.2 hb
             have h4:=sK.out.gt h3.1;rw [ai (by decide)];omega
            ·rw [ay rfl];omega
          ·have nV:ob.aA=false∧bG L [41] ob.at=true:=by simpa using H9.out
           have Lc:ob.at<L.length:=bR nV.2
           have uo:Hid (OL=.ok (l++[ob.pt]) (ob.at+1)):=hid (by
            rw [yc.out]
            cases ob with
            | bad j=>cases nV.1
            | ok a j =>
             show (if bG L [41] j=true then _ else _)=_
             rw [ay (show bG L [41] j=true from nV.2)];rfl)
           have Ir:Hid (dY W1.heap.size (Out.ok (l++[ob.pt]) (ob.at+1)) v' (nn+1) (xs++[.string kb,.string tb,.int .i64 fb,.int .i64 eb,.slice ab nb kS]) w7):=hid (Ej.out _ (fun l' j' hl'=>by
            cases hl'
            exact ⟨ob.pt,ob.at,jG nV.1,rfl⟩))
           have sP:=hid nV;have Zf:=hid Lc;clear nV Lc
           go_wp2_with fail
           refine c8.mono ?_;rintro x w8 ⟨rfl,hw8⟩;have hw8:kz d lv (ob.at+1) ob.aA w7 w8:=hw8;rw [sP.out.1] at hw8;have lF:=hid (iN.out.trans (hw8.2.mono iN.out.size));have oC:Hid (jP d L lv W1 OL (fun m j l=>args L m j l) (i+1+1) (m) true (Out.ok (l++[ob.pt]) (ob.at+1)) v' (nn+1) (xs++[.string kb,.string tb,.int .i64 fb,.int .i64 eb,.slice ab nb kS]) m' w8):=hid ⟨by rw [ay rfl];exact uo.out,hw8.1,lF.out,Ir.out.mv hw8.2 (by have:=dP.out.size;omega),Zf.out,by show i+1+1≤ob.at+1;have:=sK.out.ge;omega,by show nn+1+1≤ob.at+1;have:=sK.out.gt sP.out.1;omega,fun h=>by cases h⟩;have sO:Hid (atR d w8=ob.at+1∧nR d w8=1):=hid ⟨hw8.1.at,hw8.1.good⟩;clear c8 hw8
           go_wp2_with fail
           go_roundw
           case rel=>exact ⟨true,_,_,_,_,m',rfl,rfl,oC⟩
           case measure =>
            rw [sO.out.1,sO.out.2,yh.out,Az.out];have h2:=sK.out.ge
            omega
         have hox:OL=o:=by
          rw [fG.out.out,ai (by decide)]
          cases o with
          | ok a j=>cases fw
          | bad j=>rfl
         have hc2:=fG.out.rd.c2;rw [fw] at hc2
        rotate_left
        focus
         have hox:OL=o:=fG.out.out
        rotate_left
        all_goals
         subst hox;have HAT:=yh;have zC:=afO;have cz:=eZ d L lv OL.at OL.aA ⟨#[99,97,108,108]⟩ sv fr la nn lc wr fG.out.rd (HT1.out.mv fG.out.mv (ae _)) fG.out.le hL;obtain ⟨ez,jC⟩:∃ u,jY L OL.at=u:=⟨_,rfl⟩;rw [jC] at cz;have sH:=hid jC;clear jC
         go_wp2_with fail
         refine cz.mono ?_;rintro x wq ⟨rfl,hwq⟩;have Ce:=hid (fG.out.mv.trans (hwq.2.mono fG.out.mv.size));have EA:=hid hwq;have ow:=(af.1 jD.out).1;have jd:wq.heap[w.heap.size]?=_:=(Ce.out.block w.heap.size ow (by omega)).trans jD.out;obtain ⟨⟨r0,r1,r2,r3,r4⟩,gz⟩:=aF jd;have g0:=gz 0;have g1:=gz 1;have g2:=gz 2;have g3:=gz 3;have g4:=gz 4;have pQ:=hid jd;clear cz hwq jd gz
         go_wp2_with fail
         have hp:=dS (a':=.string ⟨#[99,97,108,108]⟩) (b':=.string sv) (c':=.int .i64 fr) (d':=.int .i64 ez) (e':=.slice la nn lc) pQ.out;refine aB (v:=.agg #[.string ⟨#[99,97,108,108]⟩,.string sv,.int .i64 fr,.int .i64 ez,.slice la nn lc]) (aQ rfl _ _ w.heap.size 49 #[.string ⟨#[99,97,108,108]⟩,.string sv,.int .i64 fr,.int .i64 ez,.slice la nn lc] (0,0) _ (by rfl) hp Tryz.underlying49 rfl (by kernel_rfl)) rfl ?_;rw [← HQ.out];refine dO hd (dP.out.trans (Ce.out.mono dP.out.size)) EA.out.1 HAT.out.1 HAT.out.2 ?_ ⟨ae _,ae _⟩;refine nI (fG.out.list.mv EA.out.2 (by omega)) (fun g hg=>by omega) (by have h1:=fG.out.cnt;have h2:=fG.out.le;split at h1 <;> omega) (fun p j fQ=>?_);rw [← sH.out]
         exact zC.out p j fQ
   ·have hb:b=false∧bG L [40] i=true:=by simpa using HC.out
    obtain ⟨rfl,his⟩:=hb;have hil:i<L.length:=bR his;obtain ⟨m,rfl⟩:∃ m,n=m+1:=⟨n - 1,by have:=HN.out (by trivial);omega⟩;have hfu:=HN.out rfl;obtain ⟨ob,fw⟩:∃ u,start false (i+1) (expr L m 0 (i+1))=u:=⟨_,rfl⟩;obtain ⟨om,mE⟩:∃ u,start ob.aA ob.at (bI L [41] ob.at)=u:=⟨_,rfl⟩
    have qW:Hid (O=ob.next fun e j=>(bI L [41] j).next fun _ k=>.ok e k):=hid (by
     rw [← HO.out,← fw,aW,aW,oz,ai (by rw [show bT L 1 i=false by simpa using HA.out];decide),ai (by rw [show bT L 2 i=false by simpa using HB.out];decide),ay his])
    have sJ:Hid (oZ L (i+1) false (Out.ok () (i+1):Out Unit)):=hid ⟨ae _,hil,fun _=>rfl⟩;have D4:Hid (oZ L (i+1) false ob):=hid (by rw [← fw];exact .begun hil ((iK m).expr _ hil _).toFw);have qj:Hid (oZ L (i+1) false om):=hid (by rw [← mE];exact D4.out.step (bU _ D4.out.le).toFw)
    have HAT:Hid (O.at=om.at∧O.aA=om.aA):=hid (by
     rw [qW.out,← mE]
     cases ob with
     | bad j=>exact ⟨rfl,rfl⟩
     | ok x j =>
      show ((bI L [41] j).next fun _ k=>Out.ok x k).at=(bI L [41] j).at∧((bI L [41] j).next fun _ k=>Out.ok x k).aA=(bI L [41] j).aA
      cases bI L [41] j <;> exact ⟨rfl,rfl⟩)
    have Zg:Hid (∀ p j,O=.ok p j→∃ j',ob=.ok p j'):=hid (by
     intro p j fQ;rw [qW.out] at fQ
     cases ob with
     | bad j=>cases fQ
     | ok x j' =>
      refine ⟨j',?_⟩;have fQ:((bI L [41] j').next fun _ k=>Out.ok x k)=.ok p j:=fQ
      cases hm:bI L [41] j' with
      | bad k=>rw [hm] at fQ;cases fQ
      | ok a k=>rw [hm] at fQ;cases fQ;rfl)
    have Xe:=hid fw;have Hq:=hid mE;clear fw mE his
    go_wp2_with fail
    refine c4.mono ?_;rintro x w5 ⟨rfl,jA⟩;have jA:kz d lv (i+1) false w4 w5:=jA;have mK:=hid (mJ.out.trans (jA.2.mono mJ.out.size));have uV:=hid jA.1;clear c4 jA;have c6:=HI.out m (eu _) 0 (i+1) false w5 uV.out (HT1.out.mv mK.out (ae _)) sJ.out.le (fun _=>by have:=sJ.out.ge;omega);rw [Xe.out] at c6
    go_wp2_with fail
    refine c6.mono ?_;rintro x w6 ⟨v,rfl,⟨jQ,jR,jS,jT,jU,jV,jW,rfl,kU,ng⟩,xe⟩;have rU:=hid ng;have xA:=hid kU;clear kU;have jb:=hid xe;clear c6 ng xe
    go_upto_region 11 with fail
    obtain ⟨oG,ji⟩:∃ q,w6.heap.size=q:=⟨_,rfl⟩;obtain ⟨V6,hV6⟩:∃ V,w6.alloc (.cells #[.string jQ,.string jR,.int .i64 jS,.int .i64 jT,.slice jU jV jW] 49)=V:=⟨_,rfl⟩
    have hb6:Below w6.heap.size w6 V6:=by rw [← hV6];exact (aj _ w6).alloc (ae _) _
    have ni:Hid (V6.heap[oG]?=some (.cells #[.string jQ,.string jR,.int .i64 jS,.int .i64 jT,.slice jU jV jW] 49 (0,0))):=hid (by rw [← hV6,← ji];exact aG w6 _);have lK:Hid (Mv w6.heap.size d w6 V6):=hid (Mv.of_below hb6);have jJ:Hid (W1.heap.size≤w5.heap.size∧w5.heap.size≤w6.heap.size∧oG=w6.heap.size):=hid ⟨mK.out.size,jb.out.2.size,ji.symm⟩;rw [hV6,ji];have nW:=hid ((mK.out.trans (jb.out.2.mono mK.out.size)).trans ((Mv.of_below hb6).mono (aJ mK.out.size jb.out.2.size)));have Ad:=hid (jb.out.1.below hb6)
    skip
    clear hV6 hb6 ji;have Tz:Hid (Mv V6.heap.size d V6 V6):=hid (Mv.refl _ _ _);have c7:=jf d L lv ob.at ob.aA [41] V6 Ad.out (HT1.out.mv nW.out (ae _)) (by have:=D4.out.le;omega);rw [Hq.out,show aU [41]=⟨#[41]⟩ from rfl] at c7
    go_wp2_with fail
    refine c7.mono ?_;rintro x w7 ⟨rfl,hw7⟩;have iN:=hid (nW.out.trans (hw7.2.mono nW.out.size));have sw:=hid hw7.1;have TA:=hid (Tz.out.trans (hw7.2.mono Tz.out.size));clear c7 hw7;have ma:=(TA.out.block oG (af.1 ni.out).1 (by have:=jJ.out;have:=dP.out.size;omega)).trans ni.out;obtain ⟨⟨vY,vZ,wm,wu,wy⟩,-⟩:=aF ma;clear ma;have ow:=(af.1 jD.out).1;have jd:w7.heap[w.heap.size]?=_:=(iN.out.block w.heap.size ow (by omega)).trans jD.out;obtain ⟨⟨r0,r1,r2,r3,r4⟩,gz⟩:=aF jd;have g0:=gz 0;have g1:=gz 1;have g2:=gz 2;have g3:=gz 3;have g4:=gz 4;have pQ:=hid jd;clear gz jd
    go_wp2_with fail
    have hp:=dS (a':=.string jQ) (b':=.string jR) (c':=.int .i64 jS) (d':=.int .i64 jT) (e':=.slice jU jV jW) pQ.out;refine aB (v:=.agg #[.string jQ,.string jR,.int .i64 jS,.int .i64 jT,.slice jU jV jW]) (aQ rfl _ _ w.heap.size 49 #[.string jQ,.string jR,.int .i64 jS,.int .i64 jT,.slice jU jV jW] (0,0) _ (by rfl) hp Tryz.underlying49 rfl (by kernel_rfl)) rfl ?_;rw [← HQ.out];refine dO hd (dP.out.trans (iN.out.mono dP.out.size)) sw.out HAT.out.1 HAT.out.2 ?_ ⟨ae _,ae _⟩;have hsz:=dP.out.size;refine ⟨_,_,_,_,_,_,_,rfl,xA.out,fun p j fQ=>?_⟩;obtain ⟨j',hj'⟩:=Zg.out p j fQ;obtain ⟨u1,u2⟩:=rU.out p j' hj';refine ⟨u1,?_⟩;have s1:Mv w6.heap.size d w6 w7:=lK.out.trans (TA.out.mono lK.out.size)
    exact u2.later (R':=fun g=>w.heap.size<g) (s1.still (ae _) (fun g hg=>by have:=jJ.out;omega)) (fun g hg=>by have:=jJ.out;omega)
  skip
  have hb:b=false∧bT L 2 i=true:=by simpa using HB.out
  obtain ⟨rfl,his⟩:=hb;have hil:i<L.length:=gP his;obtain ⟨m,rfl⟩:∃ m,n=m+1:=⟨n - 1,by have:=HN.out (by trivial);omega⟩
  have qW:Hid (O=part L Iz (dz L i) fr [] (i+1)):=hid (by
   rw [← HO.out,← Aq.out,aW,oz,ai (by rw [show bT L 1 i=false by simpa using HA.out];decide),ay his])
  have h2:bT L 2 i=true:=his
  go_wp2_with fail
  refine c3.mono ?_;intro x w4 h4;obtain ⟨rfl,hw4⟩:=h4.went HR3.out;have mJ:=hid (lq.out.trans (hw4.2.mono lq.out.size));have HR4:=hid hw4.1;have c4:=pF d L lv i false 2 w4 HR4.out (HT1.out.mv mJ.out (ae _));rw [h2] at c4;clear c3 h4 hw4 his h2
  go_wp2_with fail
  refine c4.mono ?_;intro x w9 h4;obtain ⟨rfl,hw4⟩:=h4.went HR4.out;have kF:=hid (mJ.out.trans (hw4.2.mono mJ.out.size));have zx:=hid hw4.1;have k1:=zx.out.c1;have f1:=zx.out.f1;have e1:IntKind.i64.wrap ((i:Int)+1)=(i:Int)+1:=bg _ (by omega);obtain ⟨Ia,Ib⟩:∃ W,w9.setCell ⟨d,1,none⟩ (.int .i64 ((i:Int)+1))=W:=⟨_,rfl⟩
  have TB:Rd d lv (i+1) false Ia:=by rw [← Ib];exact zx.out.set1 ((i:Int)+1) (by simp)
  have TC:Mv W1.heap.size d W1 Ia:=by rw [← Ib];exact kF.out.trans ((Mv.refl _ _ _).setCell 1 _)
  have yg:=hid TB;have rV:=hid TC;clear c4 h4 hw4 TB TC
  go_upto_region 7 with fail
  try rw [Ib]
  have Ic:Ia.drew.heap[d]?=some (.cells #[lv,.int .i64 ((i:Int)+1),.bool false] 82 (0,0)):=yg.out;have L9:=HT1.out.mv rV.out (ae _);obtain ⟨g,off,cap,hlv,hgd,t0,t1,t2,t3⟩:=lI (i:=i) L9 hil
  have Ae:Ia.drew.cell? ⟨g,off+i*4+1,none⟩=some (.string (aU (dz L i))):=by rw [Np hil];exact t1
  have hgw:g≠w.heap.size:=by
   obtain ⟨la,cap',h1,h2⟩:=HT0.out
   rcases h2 with h2|⟨g',off',h3,_,h5,_⟩
   ·rw [h2] at hil;exact absurd hil (bq _)
   ·rw [hlv,h3] at h1
    injection h1 with h1
    injection h1 with h1
    injection h1 with h1
    omega
  have hgz:g<Ia.drew.heap.size:=bB _ _ Ae;have HTV:Hid (Tk d L lv Ia.drew):=hid L9;have Ey:Hid (Rd d lv (i+1) false Ia.drew):=hid yg.out;have Am:Hid (Mv W1.heap.size d W1 Ia.drew):=hid (rV.out.drewN 1);obtain ⟨tx,htx⟩:∃ u,aU (dz L i)=u:=⟨_,rfl⟩;rw [htx] at Ae;have LK:=hid htx;rw [hlv] at Ic;obtain ⟨ln,hln⟩:∃ u,L.length=u:=⟨_,rfl⟩;rw [hln] at Ic hil;have TY:=hid hln;have HGZ:=hid hgz;have Py:=hid hlv
  have e2:IntKind.i64.wrap ((i:Int)+1 - 1)=(i:Int):=by rw [show (i:Int)+1 - 1=(i:Int) by omega];exact bg _ (by omega)
  have e3:IntKind.i64.wrap (i:Int)=(i:Int):=bg _ (by omega);obtain ⟨V,hV⟩:∃ V,Ia.drew=V:=⟨_,rfl⟩;clear t0 t1 t2 t3 L9 k1 f1 e1 Ib htx hln hgz hlv
  refine aS (S:=fun X=>X.heap[d]?=some (.cells #[.slice (some ⟨g,off,none⟩) ln cap,.int .i64 ((i:Int)+1),.bool false] 82 (0,0))∧X.cell? ⟨g,off+i*4+1,none⟩=some (.string tx)) (by kernel_rfl) ⟨Ic,Ae⟩ fun ag=>?_
  clear Ic Ae;rw [hV] at ag HTV Ey Am HGZ ⊢;clear hV;refine OP.m 0 rfl (.pointer (some ⟨d,0,none⟩)) ag ?_;simp only [OP.s];refine OP.m 1 rfl (.string ⟨#[115,116,114]⟩) ag ?_;simp only [OP.s];refine OP.m 2 rfl (.pointer (some ⟨d,0,none⟩)) ag ?_;simp only [OP.s];refine OP.m 3 rfl (.pointer (some ⟨d,0,none⟩)) ag ?_;simp only [OP.s];refine OP.m 4 rfl (.pointer (some ⟨d,0,none⟩)) ag ?_;simp only [OP.s];refine OP.t 5 rfl (.slice (some ⟨g,off,none⟩) ln cap) (fun X hX=>by have q0:X.cell? ⟨d,0,none⟩=some (.slice (some ⟨g,off,none⟩) ln cap):=(by simp [World.cell?,hX.1]);have q1:X.cell? ⟨d,1,none⟩=some (.int .i64 ((i:Int)+1)):=(by simp [World.cell?,hX.1]);have q2:=hX.2;go_simp) ag ?_;simp only [OP.s];refine OP.m 6 rfl (.pointer (some ⟨d,0,none⟩)) ag ?_;simp only [OP.s];refine OP.m 7 rfl (.pointer (some ⟨d,0,none⟩)) ag ?_;simp only [OP.s];refine OP.m 8 rfl (.pointer (some ⟨d,1,none⟩)) ag ?_;simp only [OP.s];refine OP.t 9 rfl (.int .i64 ((i:Int)+1)) (fun X hX=>by have q0:X.cell? ⟨d,0,none⟩=some (.slice (some ⟨g,off,none⟩) ln cap):=(by simp [World.cell?,hX.1]);have q1:X.cell? ⟨d,1,none⟩=some (.int .i64 ((i:Int)+1)):=(by simp [World.cell?,hX.1]);have q2:=hX.2;go_simp) ag ?_;simp only [OP.s];refine OP.t 10 rfl (.int .i64 i) (fun X hX=>by go_simp) ag ?_;simp only [OP.s];refine OP.t 11 rfl (.pointer (some ⟨g,off+i*4,none⟩)) (fun X hX=>Hu 36 41 g off ln i cap X rfl rfl rfl hil) ag ?_;simp only [OP.s];refine OP.m 12 rfl (.pointer (some ⟨g,off+i*4+1,none⟩)) ag ?_;simp only [OP.s]
  refine OP.t 13 rfl (.string tx) (fun X hX=>by have q0:X.cell? ⟨d,0,none⟩=some (.slice (some ⟨g,off,none⟩) ln cap):=(by simp [World.cell?,hX.1]);have q1:X.cell? ⟨d,1,none⟩=some (.int .i64 ((i:Int)+1)):=(by simp [World.cell?,hX.1]);have q2:=hX.2;go_simp) ag ?_;simp only [OP.s];refine OP.m 14 rfl (.int .i64 fr) ag ?_;simp only [OP.s];have cP:=eZ d L lv (i+1) false ⟨#[115,116,114]⟩ tx fr none 0 0 V Ey.out HTV.out (by have:=TY.out;omega) hL;obtain ⟨ez,jC⟩:∃ u,jY L (i+1)=u:=⟨_,rfl⟩;rw [jC] at cP;have sH:=hid jC;clear jC
  refine OP.r 15 rfl fun K hK=>?_
  go_simp
  go_at_call 66
  refine cP.mono ?_;rintro x wP ⟨rfl,wD⟩
  have hRP:wP.heap[d]?=some (.cells #[.slice (some ⟨g,off,none⟩) ln cap,.int .i64 ((i:Int)+1),.bool false] 82 (0,0)):=by have h:=wD.1;unfold Rd at h;rw [Py.out,TY.out,show ((i+1:Nat):Int)=(i:Int)+1 by omega] at h;exact h
  have Sq:wP.cell? ⟨g,off+i*4+1,none⟩=some (.string tx):=by rw [iy (wD.2.block g HGZ.out hgd)];exact ag.2
  have Pv:=hid (Am.out.trans (wD.2.mono Am.out.size));have FN:=hid wD;clear cP wD;dsimp only;refine hK.out _ _ (⟨hRP,Sq⟩) (fun jN=>?_)
  try simp only [OP.s]
  clear hK K;have hq8:wP.heap[w.heap.size]?=_:=(Pv.out.block w.heap.size (af.1 jD.out).1 (by omega)).trans jD.out;obtain ⟨⟨r0,r1,r2,r3,r4⟩,gz⟩:=aF hq8;have g0:=gz 0;have g1:=gz 1;have g2:=gz 2;have g3:=gz 3;have g4:=gz 4;obtain ⟨WF,DV,Iq,J7,-⟩:=gV (a':=.string ⟨#[115,116,114]⟩) (b':=.string tx) (c':=.int .i64 fr) (e':=.int .i64 ez) (f':=.slice none 0 0) hq8;have oD:WF.heap[d]?=some (.cells #[.slice (some ⟨g,off,none⟩) ln cap,.int .i64 ((i:Int)+1),.bool false] 82 (0,0))∧WF.cell? ⟨g,off+i*4+1,none⟩=some (.string tx):=⟨(J7 d (by omega)).trans jN.1,by rw [iy (J7 g hgw)];exact jN.2⟩;have VY:=hid Iq;have TS:=hid DV;clear gz hq8 Iq J7
  refine OP.r 16 rfl fun K hK=>?_
  go_simp
  refine hK.out _ _ (oD) (fun lT=>?_)
  try simp only [OP.s]
  clear hK K;clear r0 r1 r2 r3 r4 g0 g1 g2 g3 g4 DV ag jN lT oD hRP Sq;refine bL (by kernel_rfl) ?_ _
  go_wp2_with fail
  refine aB (v:=.agg #[.string ⟨#[115,116,114]⟩,.string tx,.int .i64 fr,.int .i64 ez,.slice none 0 0]) (aQ rfl _ _ w.heap.size 49 #[.string ⟨#[115,116,114]⟩,.string tx,.int .i64 fr,.int .i64 ez,.slice none 0 0] (0,0) _ (by rfl) VY.out Tryz.underlying49 rfl (by kernel_rfl)) rfl ?_
 rotate_left
 focus
  skip
  have hb:b=false∧bT L 1 i=true:=by simpa using HA.out
  obtain ⟨rfl,his⟩:=hb;have hil:i<L.length:=gP his;obtain ⟨m,rfl⟩:∃ m,n=m+1:=⟨n - 1,by have:=HN.out (by trivial);omega⟩
  have qW:Hid (O=part L Iy (dz L i) fr [] (i+1)):=hid (by
   rw [← HO.out,← Aq.out,aW,oz,ay his])
  have h2:bT L 2 i=false:=by
   rw [tN 1 hil] at his;rw [tN 2 hil]
   have h9:L[i].w=1:=by simpa using his
   rw [h9];decide
  go_wp2_with fail
  refine c2.mono ?_;intro x w3 h4;obtain ⟨rfl,hw4⟩:=h4.went HR2.out;have lq:=hid (kG.out.trans (hw4.2.mono kG.out.size));have HR3:=hid hw4.1;have c3:=pF d L lv i false 2 w3 HR3.out (HT1.out.mv lq.out (ae _));rw [h2] at c3;clear c2 h4 hw4 his h2
  go_wp2_with fail
  refine c3.mono ?_;intro x w9 h4;obtain ⟨rfl,hw4⟩:=h4.went HR3.out;have kF:=hid (lq.out.trans (hw4.2.mono lq.out.size));have zx:=hid hw4.1;have k1:=zx.out.c1;have f1:=zx.out.f1;have e1:IntKind.i64.wrap ((i:Int)+1)=(i:Int)+1:=bg _ (by omega);obtain ⟨Ia,Ib⟩:∃ W,w9.setCell ⟨d,1,none⟩ (.int .i64 ((i:Int)+1))=W:=⟨_,rfl⟩
  have TB:Rd d lv (i+1) false Ia:=by rw [← Ib];exact zx.out.set1 ((i:Int)+1) (by simp)
  have TC:Mv W1.heap.size d W1 Ia:=by rw [← Ib];exact kF.out.trans ((Mv.refl _ _ _).setCell 1 _)
  have yg:=hid TB;have rV:=hid TC;clear c3 h4 hw4 TB TC
  go_upto_region 7 with fail
  try rw [Ib]
  have Ic:Ia.drew.heap[d]?=some (.cells #[lv,.int .i64 ((i:Int)+1),.bool false] 82 (0,0)):=yg.out;have L9:=HT1.out.mv rV.out (ae _);obtain ⟨g,off,cap,hlv,hgd,t0,t1,t2,t3⟩:=lI (i:=i) L9 hil
  have Ae:Ia.drew.cell? ⟨g,off+i*4+1,none⟩=some (.string (aU (dz L i))):=by rw [Np hil];exact t1
  have hgw:g≠w.heap.size:=by
   obtain ⟨la,cap',h1,h2⟩:=HT0.out
   rcases h2 with h2|⟨g',off',h3,_,h5,_⟩
   ·rw [h2] at hil;exact absurd hil (bq _)
   ·rw [hlv,h3] at h1
    injection h1 with h1
    injection h1 with h1
    injection h1 with h1
    omega
  have hgz:g<Ia.drew.heap.size:=bB _ _ Ae;have HTV:Hid (Tk d L lv Ia.drew):=hid L9;have Ey:Hid (Rd d lv (i+1) false Ia.drew):=hid yg.out;have Am:Hid (Mv W1.heap.size d W1 Ia.drew):=hid (rV.out.drewN 1);obtain ⟨tx,htx⟩:∃ u,aU (dz L i)=u:=⟨_,rfl⟩;rw [htx] at Ae;have LK:=hid htx;rw [hlv] at Ic;obtain ⟨ln,hln⟩:∃ u,L.length=u:=⟨_,rfl⟩;rw [hln] at Ic hil;have TY:=hid hln;have HGZ:=hid hgz;have Py:=hid hlv
  have e2:IntKind.i64.wrap ((i:Int)+1 - 1)=(i:Int):=by rw [show (i:Int)+1 - 1=(i:Int) by omega];exact bg _ (by omega)
  have e3:IntKind.i64.wrap (i:Int)=(i:Int):=bg _ (by omega);obtain ⟨V,hV⟩:∃ V,Ia.drew=V:=⟨_,rfl⟩;clear t0 t1 t2 t3 L9 k1 f1 e1 Ib htx hln hgz hlv
  refine aS (S:=fun X=>X.heap[d]?=some (.cells #[.slice (some ⟨g,off,none⟩) ln cap,.int .i64 ((i:Int)+1),.bool false] 82 (0,0))∧X.cell? ⟨g,off+i*4+1,none⟩=some (.string tx)) (by kernel_rfl) ⟨Ic,Ae⟩ fun ag=>?_
  clear Ic Ae;rw [hV] at ag HTV Ey Am HGZ ⊢;clear hV;refine OP.m 0 rfl (.pointer (some ⟨d,0,none⟩)) ag ?_;simp only [OP.s];refine OP.m 1 rfl (.string ⟨#[110,117,109]⟩) ag ?_;simp only [OP.s];refine OP.m 2 rfl (.pointer (some ⟨d,0,none⟩)) ag ?_;simp only [OP.s];refine OP.m 3 rfl (.pointer (some ⟨d,0,none⟩)) ag ?_;simp only [OP.s];refine OP.m 4 rfl (.pointer (some ⟨d,0,none⟩)) ag ?_;simp only [OP.s];refine OP.t 5 rfl (.slice (some ⟨g,off,none⟩) ln cap) (fun X hX=>by have q0:X.cell? ⟨d,0,none⟩=some (.slice (some ⟨g,off,none⟩) ln cap):=(by simp [World.cell?,hX.1]);have q1:X.cell? ⟨d,1,none⟩=some (.int .i64 ((i:Int)+1)):=(by simp [World.cell?,hX.1]);have q2:=hX.2;go_simp) ag ?_;simp only [OP.s];refine OP.m 6 rfl (.pointer (some ⟨d,0,none⟩)) ag ?_;simp only [OP.s];refine OP.m 7 rfl (.pointer (some ⟨d,0,none⟩)) ag ?_;simp only [OP.s];refine OP.m 8 rfl (.pointer (some ⟨d,1,none⟩)) ag ?_;simp only [OP.s];refine OP.t 9 rfl (.int .i64 ((i:Int)+1)) (fun X hX=>by have q0:X.cell? ⟨d,0,none⟩=some (.slice (some ⟨g,off,none⟩) ln cap):=(by simp [World.cell?,hX.1]);have q1:X.cell? ⟨d,1,none⟩=some (.int .i64 ((i:Int)+1)):=(by simp [World.cell?,hX.1]);have q2:=hX.2;go_simp) ag ?_;simp only [OP.s];refine OP.t 10 rfl (.int .i64 i) (fun X hX=>by go_simp) ag ?_;simp only [OP.s];refine OP.t 11 rfl (.pointer (some ⟨g,off+i*4,none⟩)) (fun X hX=>Hu 36 41 g off ln i cap X rfl rfl rfl hil) ag ?_;simp only [OP.s];refine OP.m 12 rfl (.pointer (some ⟨g,off+i*4+1,none⟩)) ag ?_;simp only [OP.s]
  refine OP.t 13 rfl (.string tx) (fun X hX=>by have q0:X.cell? ⟨d,0,none⟩=some (.slice (some ⟨g,off,none⟩) ln cap):=(by simp [World.cell?,hX.1]);have q1:X.cell? ⟨d,1,none⟩=some (.int .i64 ((i:Int)+1)):=(by simp [World.cell?,hX.1]);have q2:=hX.2;go_simp) ag ?_;simp only [OP.s];refine OP.m 14 rfl (.int .i64 fr) ag ?_;simp only [OP.s];have cP:=eZ d L lv (i+1) false ⟨#[110,117,109]⟩ tx fr none 0 0 V Ey.out HTV.out (by have:=TY.out;omega) hL;obtain ⟨ez,jC⟩:∃ u,jY L (i+1)=u:=⟨_,rfl⟩;rw [jC] at cP;have sH:=hid jC;clear jC
  refine OP.r 15 rfl fun K hK=>?_
  go_simp
  go_at_call 66
  refine cP.mono ?_;rintro x wP ⟨rfl,wD⟩
  have hRP:wP.heap[d]?=some (.cells #[.slice (some ⟨g,off,none⟩) ln cap,.int .i64 ((i:Int)+1),.bool false] 82 (0,0)):=by have h:=wD.1;unfold Rd at h;rw [Py.out,TY.out,show ((i+1:Nat):Int)=(i:Int)+1 by omega] at h;exact h
  have Sq:wP.cell? ⟨g,off+i*4+1,none⟩=some (.string tx):=by rw [iy (wD.2.block g HGZ.out hgd)];exact ag.2
  have Pv:=hid (Am.out.trans (wD.2.mono Am.out.size));have FN:=hid wD;clear cP wD;dsimp only;refine hK.out _ _ (⟨hRP,Sq⟩) (fun jN=>?_)
  try simp only [OP.s]
  clear hK K;have hq8:wP.heap[w.heap.size]?=_:=(Pv.out.block w.heap.size (af.1 jD.out).1 (by omega)).trans jD.out;obtain ⟨⟨r0,r1,r2,r3,r4⟩,gz⟩:=aF hq8;have g0:=gz 0;have g1:=gz 1;have g2:=gz 2;have g3:=gz 3;have g4:=gz 4;obtain ⟨WF,DV,Iq,J7,-⟩:=gV (a':=.string ⟨#[110,117,109]⟩) (b':=.string tx) (c':=.int .i64 fr) (e':=.int .i64 ez) (f':=.slice none 0 0) hq8;have oD:WF.heap[d]?=some (.cells #[.slice (some ⟨g,off,none⟩) ln cap,.int .i64 ((i:Int)+1),.bool false] 82 (0,0))∧WF.cell? ⟨g,off+i*4+1,none⟩=some (.string tx):=⟨(J7 d (by omega)).trans jN.1,by rw [iy (J7 g hgw)];exact jN.2⟩;have VY:=hid Iq;have TS:=hid DV;clear gz hq8 Iq J7
  refine OP.r 16 rfl fun K hK=>?_
  go_simp
  refine hK.out _ _ (oD) (fun lT=>?_)
  try simp only [OP.s]
  clear hK K;clear r0 r1 r2 r3 r4 g0 g1 g2 g3 g4 DV ag jN lT oD hRP Sq;refine bL (by kernel_rfl) ?_ _
  go_wp2_with fail
  refine aB (v:=.agg #[.string ⟨#[110,117,109]⟩,.string tx,.int .i64 fr,.int .i64 ez,.slice none 0 0]) (aQ rfl _ _ w.heap.size 49 #[.string ⟨#[110,117,109]⟩,.string tx,.int .i64 fr,.int .i64 ez,.slice none 0 0] (0,0) _ (by rfl) VY.out Tryz.underlying49 rfl (by kernel_rfl)) rfl ?_
 rotate_left
 all_goals
  rw [← HQ.out,qW.out,← TS.out];refine dO hd (dP.out.trans (Pv.out.mono dP.out.size)) FN.out.1 rfl rfl ?_ ⟨ae _,ae _⟩;refine ⟨_,_,_,_,_,_,_,rfl,by omega,fun p j fQ=>?_⟩;simp only [part,Out.ok.injEq] at fQ;obtain ⟨rfl,rfl⟩:=fQ;rw [sH.out,← LK.out]
  exact ⟨rfl,wV _ _ _ _ _ _⟩
theorem Ma (d:Nat) (L:List aZ) (lv:Value) (hL:L.length≤1000000) (n:Nat):wW d L lv n∧wz d L lv n∧Au d L lv n:=by
 induction n using Nat.strongRecOn with
 | _ n ih =>
  have hO:wW d L lv n:=Hy d L lv hL n (fun m hm=>(ih m hm).2.2)
  have hP:wz d L lv n:=J6 d L lv hL n (fun m hm=>(ih m (by omega)).2.1) (fun m hm=>by
   by_cases h:m<n
   ·exact (ih m h).1
   ·obtain rfl:m=n:=by omega
    exact hO) (fun m hm=>(ih m hm).2.2)
  refine ⟨hO,hP,Po d L lv hL n (fun m hm=>?_) (fun m hm=>(ih m hm).2.2)⟩
  by_cases h:m<n
  ·exact (ih m h).2.1
  ·obtain rfl:m=n:=by omega
   exact hP
theorem tT (d:Nat) (L:List aZ) (lv:Value) (hL:L.length≤1000000) (n:Nat):Au d L lv n:=(Ma d L lv hL n).2.2
section
variable (L:List aZ)
theorem Mb (i:Nat):block L 0 i=.bad i:=by rw [block]
theorem Mc (i:Nat) (acc:List Pt):stmts L 0 i acc=.bad i:=by rw [stmts]
theorem Kc (i:Nat):branch L 0 i=.bad i:=by rw [branch]
theorem Pz (i:Nat):stmt L 0 i=.bad i:=by rw [stmt]
theorem D5 (n i:Nat):block L (n+1) i=(bI L [123] i).next fun _ j=>(stmts L n (j+bE L j) []).next fun l k=>(bI L [125] k).next fun _ m=>part L nX [] (bQ L i) l m:=by rw [block]
theorem yl (n i:Nat) (acc:List Pt):stmts L (n+1) i acc=if bG L [125] i then .ok acc i
  else (stmt L n i).next fun p j=>if bE L j=0∧bG L [125] j=false then .bad j else stmts L n (j+bE L j) (acc++[p]):=by rw [stmts]
theorem Bn (n i:Nat):branch L (n+1) i=(bI L kJ i).next fun _ j=>(expr L n 0 j).next fun e k=>(block L n k).next fun b m =>
  if bG L mM m then
   if bG L kJ (m+1) then (branch L n (m+1)).next fun o p=>part L kJ [] (bQ L i) [e,b,o] p
   else (block L n (m+1)).next fun o p=>part L kJ [] (bQ L i) [e,b,o] p
  else part L kJ [] (bQ L i) [e,b] m:=by rw [branch]
theorem pK (n i:Nat):stmt L (n+1) i =
  if bG L jg i then iX L n i
  else if bG L kJ i then branch L n i
  else if bG L [123] i then block L n i
  else if bG L lJ i then (expr L n 0 (i+1)).next fun e j=>(block L n j).next fun b k=>part L lJ [] (bQ L i) [e,b] k
  else if bG L dN i then
   if bT L 5 (i+1)∨bG L [125] (i+1) then part L dN [] (bQ L i) [] (i+1)
   else (expr L n 0 (i+1)).next fun e j=>part L dN [] (bQ L i) [e] j
  else (expr L n 0 i).next fun a j =>
   if bG L [61] j then (expr L n 0 (j+1)).next fun b k=>part L pM [] (bQ L i) [a,b] k
   else if bG L [58,61] j then (expr L n 0 (j+1)).next fun b k=>part L pN [] (bQ L i) [a,b] k
   else part L vo [] (bQ L i) [a] j:=by rw [stmt]
theorem kW {j:Nat} (hj:j≤L.length):j+bE L j≤L.length:=by have:=Td L j;omega
structure We (n:Nat):Prop where
 block:∀ i,i≤L.length→vW L i (block L n i)
 stmts:∀ i,i≤L.length→∀ acc,Fw L i (stmts L n i acc)
 branch:∀ i,i≤L.length→vW L i (branch L n i)
 stmt:∀ i,i≤L.length→vW L i (stmt L n i)
theorem nk:∀ n,We L n
 | 0=>⟨fun i hi=>by rw [Mb];exact .bad hi,fun i hi _=>by rw [Mc];exact ⟨ae _,hi⟩,fun i hi=>by rw [Kc];exact .bad hi,fun i hi=>by rw [Pz];exact .bad hi⟩
 | n+1=>by
  have ih:=nk n;have ie:=@iK L n
  refine ⟨fun i hi=>?_,fun i hi acc=>?_,fun i hi=>?_,fun i hi=>?_⟩
  ·rw [D5]
   refine (bU _ hi).next fun _ j _ _ hj=>((ih.stmts _ (kW L hj) []).mono (Nat.le_add_right _ _)).next fun l k _ _ hk=>((bU _ hk).next fun _ m _ _ hm=>iJ _ _ _ _ hm).toFw
  ·rw [yl]
   split
   ·exact .ok (ae _) hi _
   ·refine (((ih.stmt i hi).next fun p j _ _ hj=>?_)).toFw
    split
    ·exact ⟨ae _,hj⟩
    ·exact (ih.stmts _ (kW L hj) _).mono (Nat.le_add_right _ _)
  ·rw [Bn]
   refine (bU _ hi).next fun _ j _ _ hj=>((ie.expr j hj 0).next fun e k _ _ hk=>((ih.block k hk).next fun b m _ _ hm=>?_).toFw).toFw
   split
   ·rename_i he
    have hm1:=bR he
    split
    ·exact ((ih.branch (m+1) hm1).next fun o p _ _ hp=>iJ _ _ _ _ hp).toFw.mono (dZ _)
    ·exact ((ih.block (m+1) hm1).next fun o p _ _ hp=>iJ _ _ _ _ hp).toFw.mono (dZ _)
   ·exact iJ _ _ _ _ hm
  ·rw [pK]
   split
   ·exact zo n hi
   split
   ·exact ih.branch i hi
   split
   ·exact ih.block i hi
   split
   ·rename_i h
    have h1:=bR h
    exact (((ie.expr (i+1) h1 0).next fun e j _ _ hj=>((ih.block j hj).next fun b k _ _ hk=>iJ _ _ _ _ hk).toFw)).toFw.strict (eu _)
   split
   ·rename_i h
    have h1:=bR h
    split
    ·exact .ok (eu _) h1 _
    ·exact (((ie.expr (i+1) h1 0).next fun e j _ _ hj=>iJ _ _ _ _ hj)).toFw.strict (eu _)
   ·refine (ie.expr i hi 0).next fun a j _ _ hj=>?_
    split
    ·rename_i h
     exact ((ie.expr (j+1) (bR h) 0).next fun b k _ _ hk=>iJ _ _ _ _ hk).toFw.mono (dZ _)
    split
    ·rename_i h
     exact ((ie.expr (j+1) (bR h) 0).next fun b k _ _ hk=>iJ _ _ _ _ hk).toFw.mono (dZ _)
    ·exact iJ _ _ _ _ hj
end
end T
end Go.Proofs.YtojoahlpgmnbnaaGreatDoor
