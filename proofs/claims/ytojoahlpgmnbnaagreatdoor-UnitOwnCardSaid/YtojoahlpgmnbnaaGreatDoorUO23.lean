/- What the claim needs of the texts TStmt, TRecord. -/
import Derived.Test.YtojoahlpgmnbnaaGreatDoorUOOp
import Derived.Test.YtojoahlpgmnbnaaGreatDoorUO22
set_option maxRecDepth 20000
set_option maxHeartbeats 16000000
namespace Go.Proofs.YtojoahlpgmnbnaaGreatDoor
namespace T
open Go.RowKit
open Go.Lib hiding intOf
open U S L
theorem PH (d:Nat) (L:List aZ) (lv:Value) (hL:L.length≤1000000) (n:Nat) (ihB:∀ m,n=m+1→wX d L lv m) (ih:∀ m,n=m+1→zF d L lv m):Md d L lv n:=by
 intro i b w hR hT hi hn;obtain ⟨O,hO⟩:∃ O,start b i (stmt L n i)=O:=⟨_,rfl⟩;have HO:=hid hO;have HI:=hid ih;have HIB:=hid ihB;rw [hO];clear hO ih ihB;have hd:=hR.lt;obtain ⟨W1,hW1⟩:∃ W1,w.alloc gB=W1:=⟨_,rfl⟩
 have hb1:Below w.heap.size w W1:=by rw [← hW1];exact (aj _ w).alloc (ae _) _
 have dP:=hid (Mv.of_below (d:=d) hb1)
 have hq1:W1.heap[w.heap.size]?=some (.cells #[.string ⟨#[]⟩,.string ⟨#[]⟩,.int .i64 0,.int .i64 0,.slice none 0 0] 49 (0,0)):=by rw [← hW1];exact aG w _
 have lL:Rd d lv i b W1:=hR.below hb1;have hT1:=hT.mv (Mv.of_below hb1) (ae _);have c1:=mZ d L lv i b W1 lL hT1;obtain ⟨fr,hfr⟩:∃ fr,bQ L i=fr:=⟨_,rfl⟩;rw [hfr] at c1;have Aq:=hid hfr;have HW1:=hid hW1;have jD:=hid hq1;have HR1:=hid lL;have HT1:=hid hT1;have HT0:=hid hT;have HN:=hid hn;obtain ⟨Q,hQ⟩:∃ Q,Reads d lv O w=Q:=⟨_,rfl⟩;have HQ:=hid hQ;rw [hQ];clear hW1 hq1 hb1 lL hT1 hfr hn hQ hR hT
 go_enter Tryz.func85,Tryz.ntmps85
 go_wp2_with fail
 rw [HW1.out];refine c1.mono ?_;intro x w2 h2;obtain ⟨rfl,hw2⟩:=h2.went HR1.out;have kG:=hid hw2.2;have HR2:=hid hw2.1;clear c1 h2 hw2;have c3:=iM d L lv i b jg w2 HR2.out (HT1.out.mv kG.out (ae _));rw [show aU jg=⟨#[118,97,114]⟩ from rfl] at c3;obtain ⟨RV,hRV⟩:∃ R,(!b&&bG L jg i)=R:=⟨_,rfl⟩;rw [hRV] at c3;have Ey:=hid hRV;clear hRV
 cases RV
 ·skip
  go_wp2_with fail
  refine c3.mono ?_;intro x w3 h9;obtain ⟨rfl,dV⟩:=h9.went HR2.out;have lq:=hid (kG.out.trans (dV.2.mono kG.out.size));have HR3:=hid dV.1;clear c3 h9 dV;have c4:=iM d L lv i b kJ w3 HR3.out (HT1.out.mv lq.out (ae _));rw [show aU kJ=⟨#[105,102]⟩ from rfl] at c4;obtain ⟨RI,hRI⟩:∃ R,(!b&&bG L kJ i)=R:=⟨_,rfl⟩;rw [hRI] at c4;have HRI:=hid hRI;clear hRI
  cases RI
  ·skip
   go_wp2_with fail
   refine c4.mono ?_;intro x w4 h9;obtain ⟨rfl,dV⟩:=h9.went HR3.out;have mJ:=hid (lq.out.trans (dV.2.mono lq.out.size));have HR4:=hid dV.1;clear c4 h9 dV;have c5:=iM d L lv i b [123] w4 HR4.out (HT1.out.mv mJ.out (ae _));rw [show aU [123]=⟨#[123]⟩ from rfl] at c5;obtain ⟨RB,Y8⟩:∃ R,(!b&&bG L [123] i)=R:=⟨_,rfl⟩;rw [Y8] at c5;have HRB:=hid Y8;clear Y8
   cases RB
   ·skip
    go_wp2_with fail
    refine c5.mono ?_;intro x w5 h9;obtain ⟨rfl,dV⟩:=h9.went HR4.out;have mK:=hid (mJ.out.trans (dV.2.mono mJ.out.size));have uV:=hid dV.1;clear c5 h9 dV;have c6:=iM d L lv i b lJ w5 uV.out (HT1.out.mv mK.out (ae _));rw [show aU lJ=⟨#[102,111,114]⟩ from rfl] at c6;obtain ⟨RF,hRF⟩:∃ R,(!b&&bG L lJ i)=R:=⟨_,rfl⟩;rw [hRF] at c6;have HRF:=hid hRF;clear hRF
    cases RF
    ·skip
     go_wp2_with fail
     refine c6.mono ?_;intro x w6 h9;obtain ⟨rfl,dV⟩:=h9.went uV.out;have nW:=hid (mK.out.trans (dV.2.mono mK.out.size));have Ad:=hid dV.1;clear c6 h9 dV;have c7:=iM d L lv i b dN w6 Ad.out (HT1.out.mv nW.out (ae _));rw [show aU dN=⟨#[114,101,116,117,114,110]⟩ from rfl] at c7;obtain ⟨RR,hRR⟩:∃ R,(!b&&bG L dN i)=R:=⟨_,rfl⟩;rw [hRR] at c7;have HRR:=hid hRR;clear hRR
     cases RR
     ·skip
      go_wp2_with fail
      refine c7.mono ?_;intro x w7 h9;obtain ⟨rfl,dV⟩:=h9.went Ad.out;have iN:=hid (nW.out.trans (dV.2.mono nW.out.size));have sw:=hid dV.1;clear c7 h9 dV
      obtain ⟨m,hm⟩:∃ m,(b=false→n=m+1)∧(b=true→m=0):=by
       cases b
       ·exact ⟨n - 1,fun _=>by have:=HN.out rfl;omega,fun h=>by cases h⟩
       ·exact ⟨0,fun h=>by (cases h),fun _=>rfl⟩
      obtain ⟨oa,hoa⟩:∃ u,start b i (expr L m 0 i)=u:=⟨_,rfl⟩;have sJ:Hid (oZ L i b (start b i (Out.ok () i:Out Unit))):=hid (.begun hi ⟨ae _,hi⟩);have Wk:Hid (oZ L i b oa):=hid (by rw [← hoa];exact .begun hi ((iK m).expr _ hi 0).toFw)
      have af2:Hid (oa.aA=false→b=false∧i<oa.at):=hid (fun h=>by
       rw [← hoa] at h ⊢;obtain ⟨h1,h2⟩:=jq h;rw [h2] at h ⊢
       exact ⟨h1,((iK m).expr _ hi 0).gt h⟩)
      have nM:Hid (O=oa.next fun a j=>if bG L [61] j then (expr L m 0 (j+1)).next fun b k=>part L pM [] fr [a,b] k
            else if bG L [58,61] j then (expr L m 0 (j+1)).next fun b k=>part L pN [] fr [a,b] k
            else part L vo [] fr [a] j):=hid (by
       rw [← HO.out,← Aq.out,← hoa]
       cases b
       ·have hm1:=hm.1 rfl
        subst hm1;rw [aW,aW,pK,ai (by rw [show bG L jg i=false by simpa using Ey.out];decide),ai (by rw [show bG L kJ i=false by simpa using HRI.out];decide),ai (by rw [show bG L [123] i=false by simpa using HRB.out];decide),ai (by rw [show bG L lJ i=false by simpa using HRF.out];decide),ai (by rw [show bG L dN i=false by simpa using HRR.out];decide)]
       ·rfl)
      obtain ⟨iP,hi0,hz0,hz1,hz2⟩:=nQ Ay;have Hoa:=hid hoa;have TZ:=hid hm;have k1:=sw.out.c1;clear hoa hm;have c8:=tT d L lv hL m 0 i b w7 sw.out (HT1.out.mv iN.out (ae _)) hi (fun h=>by have h3:=HN.out h;have h4:=TZ.out.1 h;omega);rw [Hoa.out] at c8
      go_wp2_with fail
      refine c8.mono ?_;rintro x w8 ⟨v,rfl,⟨jQ,jR,jS,jT,jU,jV,jW,rfl,kU,ng⟩,hw8⟩;have rU:=hid ng;have xA:=hid kU;clear kU;have jb:=hid hw8;clear c8 ng hw8
      go_upto_region 21 with fail
      obtain ⟨oG,ji⟩:∃ q,w8.heap.size=q:=⟨_,rfl⟩;obtain ⟨V8,Hz⟩:∃ V,w8.alloc (.cells #[.string jQ,.string jR,.int .i64 jS,.int .i64 jT,.slice jU jV jW] 49)=V:=⟨_,rfl⟩
      have qJ:Below w8.heap.size w8 V8:=by rw [← Hz];exact (aj _ w8).alloc (ae _) _
      have ni:Hid (V8.heap[oG]?=some (.cells #[.string jQ,.string jR,.int .i64 jS,.int .i64 jT,.slice jU jV jW] 49 (0,0))):=hid (by rw [← Hz,← ji];exact aG w8 _);have lK:Hid (Mv w8.heap.size d w8 V8):=hid (Mv.of_below qJ);have jJ:Hid (W1.heap.size≤w7.heap.size∧w7.heap.size≤w8.heap.size∧oG=w8.heap.size):=hid ⟨iN.out.size,jb.out.2.size,ji.symm⟩;rw [Hz,ji];have lF:=hid ((iN.out.trans (jb.out.2.mono iN.out.size)).trans ((Mv.of_below qJ).mono (aJ iN.out.size jb.out.2.size)));have tY:=hid (jb.out.1.below qJ)
      skip
      clear Hz qJ ji;have pI:Hid (Mv V8.heap.size d V8 V8):=hid (Mv.refl _ _ _);have k2:=tY.out.c2
      cases fw:oa.aA
      ·rw [fw] at k2
       obtain ⟨hg1,hg2⟩:=af2.out fw
       have hil:i<L.length:=by have:=Wk.out.le;omega
       have hg5:=HN.out hg1;have Pb:=TZ.out.1 hg1;have HOB:=hid fw;have hoq:=jG fw;have HOQ:=hid hoq;obtain ⟨g,off,cap,hlv,hgd,t0,t1,t2,t3⟩:=lI (i:=i) (HT1.out.mv lF.out (ae _)) hil;have c0:=tY.out.c0;rw [hlv] at c0
       have hfr:fr=L[i].f:=by rw [← Aq.out];unfold bQ;rw [aC hil]
       rw [← hfr] at t2;obtain ⟨ln,hln⟩:∃ u,L.length=u:=⟨_,rfl⟩;rw [hln] at c0;have TY:=hid hln
       have hii:(i:Int)<(ln:Int):=by omega
       have Pq:(0:Int)≤(i:Int):=by omega
       obtain ⟨oL,Zq⟩:∃ u,(oa.next fun a k=>Out.ok [a] k:Out (List Pt))=u:=⟨_,rfl⟩
       have HPR:∀ l j,oL=.ok l j→∃ uG Ar,oa=.ok uG Ar∧l=[uG]:=fun l j hl=>by
        rw [← Zq,hoq] at hl;simp only [Out.next,Out.ok.injEq] at hl
        exact ⟨_,_,hoq,hl.1.symm⟩
       have HoL:=hid Zq;clear t0 t1 t3 hfr hlv hgd Zq fw hln hoq;have ma:=(pI.out.block oG (af.1 ni.out).1 (by have:=jJ.out;have:=dP.out.size;omega)).trans ni.out;obtain ⟨⟨vY,vZ,wm,wu,wy⟩,-⟩:=aF ma;clear ma;obtain ⟨z,hz⟩:∃ z,V8.heap.size=z:=⟨_,rfl⟩;obtain ⟨Z,hZ⟩:∃ Z,V8.alloc (.cells #[.string jQ,.string jR,.int .i64 jS,.int .i64 jT,.slice jU jV jW] 49)=Z:=⟨_,rfl⟩
       have hzb:Below V8.heap.size V8 Z:=by rw [← hZ];exact (aj _ V8).alloc (ae _) _
       have Zr:dY W1.heap.size oL (.slice (some ⟨V8.heap.size,0,none⟩) 1 1) 1 [.string jQ,.string jR,.int .i64 jS,.int .i64 jT,.slice jU jV jW] Z:=dY.made hZ lF.out.size rfl (by decide) FO (fun l j hl=>by
        obtain ⟨uG,Ar,hx0,rfl⟩:=HPR l j hl;refine ⟨rfl,?_⟩;obtain ⟨LW,xY⟩:=rU.out uG Ar hx0;have J4:Mv w8.heap.size d w8 V8:=lK.out.trans (pI.out.mono lK.out.size);have LX:=(aT.live _ _ xY).later (W':=V8) (R':=fun g=>W1.heap.size≤g∧g<V8.heap.size) (J4.still (ae _) (fun g hg=>by have:=jJ.out;have:=dP.out.size;omega)) (fun g hg=>by have:=jJ.out;have:=J4.size;omega)
        show aO V8 _ _ (([.string jQ,.string jR,.int .i64 jS,.int .i64 jT,.slice jU jV jW]:List Value)++[])
        rw [jF LW]
        exact ⟨_,_,rfl,LX,rfl⟩)
       have qi:=hid (lF.out.trans ((Mv.of_below (d:=d) hzb).mono lF.out.size));have Bg:=hid (tY.out.below hzb);rw [hz] at Zr;have YA:=hid Zr
       go_upto_region 26 with fail
       try rw [hZ]
       try rw [hz]
       clear hzb Zr hZ hz vY vZ wm wu wy;clear HPR k1 k2 c0 t2 hii Pq;have c8:=fE d L lv oa.at oa.aA [61] Z Bg.out (HT1.out.mv qi.out (ae _)) (by have:=Wk.out.le;omega);rw [HOB.out,show aU [61]=⟨#[61]⟩ from rfl] at c8;obtain ⟨R1,lL⟩:∃ R,bG L [61] oa.at=R:=⟨_,rfl⟩;rw [show (!false&&bG L [61] oa.at)=R1 from lL] at c8;have HA:=hid lL;clear lL
       cases R1
       focus
        go_wp2_with fail
        refine c8.mono ?_;rintro x wa ⟨rfl,hwa⟩;have hwa:kz d lv oa.at false Z wa:=hwa;have HMa:=hid (qi.out.trans (hwa.2.mono qi.out.size));have HRa:=hid hwa.1;have HLa:=hid (YA.out.mv hwa.2 (by have:=dP.out.size;omega));have c9:=fE d L lv oa.at false [58,61] wa HRa.out (HT1.out.mv HMa.out (ae _)) (by have:=Wk.out.le;omega);rw [show aU [58,61]=⟨#[58,61]⟩ from rfl] at c9;obtain ⟨R2,hR2⟩:∃ R,bG L [58,61] oa.at=R:=⟨_,rfl⟩;rw [show (!false&&bG L [58,61] oa.at)=R2 from hR2] at c9;have HA2:=hid hR2;clear c8 hwa hR2
        cases R2
        ·have xn:Hid (O=oa.next fun a k=>part L vo [] fr [a] k):=hid (by
          rw [nM.out,HOQ.out]
          show (if bG L [61] oa.at=true then _ else _)=_
          rw [ai (by rw [HA.out];decide),ai (by rw [HA2.out];decide)]
          rfl)
         have HAT:Hid (O.at=oa.at∧O.aA=oa.aA):=hid (by rw [xn.out];cases oa <;> exact ⟨rfl,rfl⟩)
         have zC:Hid (∀ p j,O=.ok p j→∃ K T ks j',p=.mk K T fr (jY L oa.at) ks∧aU K=⟨#[101,120,112,114]⟩∧aU T=⟨#[]⟩∧oL=.ok ks j'):=hid (by
          intro p j fQ;rw [xn.out] at fQ;rw [← HoL.out]
          cases oa with
          | bad j=>cases fQ
          | ok a j2 =>
           simp only [Out.next,part,Out.ok.injEq] at fQ
           exact ⟨_,_,_,j2,fQ.1.symm,rfl,rfl,rfl⟩)
         go_wp2_with fail
         refine c9.mono ?_;rintro x wb ⟨rfl,hwb⟩;have hwb:kz d lv oa.at false wa wb:=hwb;rw [← HOB.out] at hwb;have HMb:=hid (HMa.out.trans (hwb.2.mono HMa.out.size));have HRb:=hid hwb.1;have HLb:=hid (HLa.out.mv hwb.2 (by have:=dP.out.size;omega));clear c9 hwb;have cz:=eZ d L lv oa.at oa.aA ⟨#[101,120,112,114]⟩ ⟨#[]⟩ fr (some ⟨z,0,none⟩) 1 1 wb HRb.out (HT1.out.mv HMb.out (ae _)) Wk.out.le hL;obtain ⟨ez,jC⟩:∃ u,jY L oa.at=u:=⟨_,rfl⟩;rw [jC] at cz;have sH:=hid jC;clear jC
         go_wp2_with fail
         refine cz.mono ?_;rintro x wq ⟨rfl,hwq⟩;have Ce:=hid (HMb.out.trans (hwq.2.mono HMb.out.size));have EA:=hid hwq;have ow:=(af.1 jD.out).1;have jd:wq.heap[w.heap.size]?=_:=(Ce.out.block w.heap.size ow (by omega)).trans jD.out;obtain ⟨⟨r0,r1,r2,r3,r4⟩,gz⟩:=aF jd;have g0:=gz 0;have g1:=gz 1;have g2:=gz 2;have g3:=gz 3;have g4:=gz 4;have pQ:=hid jd;clear cz hwq jd gz
         go_wp2_with fail
         have hp:=dS (a':=.string ⟨#[101,120,112,114]⟩) (b':=.string ⟨#[]⟩) (c':=.int .i64 fr) (d':=.int .i64 ez) (e':=.slice (some ⟨z,0,none⟩) 1 1) pQ.out;refine aB (v:=.agg #[.string ⟨#[101,120,112,114]⟩,.string ⟨#[]⟩,.int .i64 fr,.int .i64 ez,.slice (some ⟨z,0,none⟩) 1 1]) (aQ rfl _ _ w.heap.size 49 #[.string ⟨#[101,120,112,114]⟩,.string ⟨#[]⟩,.int .i64 fr,.int .i64 ez,.slice (some ⟨z,0,none⟩) 1 1] (0,0) _ (by rfl) hp Tryz.underlying49 rfl (by kernel_rfl)) rfl ?_;rw [← HQ.out];refine dO hd (dP.out.trans (Ce.out.mono dP.out.size)) EA.out.1 HAT.out.1 HAT.out.2 ?_ ⟨ae _,ae _⟩;refine nI (HLb.out.mv EA.out.2 (by omega)) (fun g hg=>by omega) (by omega) (fun p j fQ=>?_);rw [← sH.out]
         exact zC.out p j fQ
        skip
        have hlt:oa.at<L.length:=bR HA2.out;obtain ⟨oo,D7⟩:∃ u,expr L m 0 (oa.at+1)=u:=⟨_,rfl⟩
        have xn:Hid (O=oo.next fun b k=>part L pN [] fr [oa.pt,b] k):=hid (by
         rw [nM.out,HOQ.out]
         show (if bG L [61] oa.at=true then _ else _)=_
         rw [ai (by rw [HA.out];decide),ay HA2.out,← D7]
         rfl)
        have PG:Hid (oo.at≤L.length):=hid (by rw [← D7];exact ((iK m).expr _ hlt 0).le);have HAT:Hid (O.at=oo.at∧O.aA=oo.aA):=hid (by rw [xn.out];cases oo <;> exact ⟨rfl,rfl⟩)
        have zC:Hid (∀ p j,O=.ok p j→∃ K T ks j',p=.mk K T fr (jY L oo.at) ks∧aU K=⟨#[100,101,102,105,110,101]⟩∧aU T=⟨#[]⟩∧(oo.next fun b k=>Out.ok [oa.pt,b] k)=.ok ks j'):=hid (by
         intro p j fQ;rw [xn.out] at fQ
         cases oo with
         | bad j=>cases fQ
         | ok a j2 =>
          simp only [Out.next,part,Out.ok.injEq] at fQ
          exact ⟨_,_,_,j2,fQ.1.symm,rfl,rfl,rfl⟩)
        have Xf:=hid D7;clear D7
        go_wp2_with fail
        refine c9.mono ?_;rintro x w4 ⟨rfl,hw4⟩;have hw4:kz d lv (oa.at+1) false wa w4:=hw4;have pJ:=hid (HMa.out.trans (hw4.2.mono HMa.out.size));have BC:=hid hw4.1;have Bl:=hid (HLa.out.mv hw4.2 (by have:=dP.out.size;omega));have Bh:=hid (HT1.out.mv pJ.out (ae _));clear c9 hw4;have cb:=tT d L lv hL m 0 (oa.at+1) false w4 BC.out Bh.out hlt (fun _=>by omega);rw [aW,Xf.out] at cb
        go_wp2_with fail
        refine cb.mono ?_;rintro x v5 ⟨v,rfl,⟨kb,tb,fb,eb,ab,nb,kS,rfl,hnb,hvb⟩,jA⟩;have Hw:=hid hvb;have qA:=hid jA;clear cb hvb jA hnb
        go_upto_region 33 with fail
        obtain ⟨qb,Av⟩:∃ q,v5.heap.size=q:=⟨_,rfl⟩;obtain ⟨W8,LP⟩:∃ W,v5.alloc (.cells #[.string kb,.string tb,.int .i64 fb,.int .i64 eb,.slice ab nb kS] 49)=W:=⟨_,rfl⟩
        have qJ:Below v5.heap.size v5 W8:=by rw [← LP];exact (aj _ v5).alloc (ae _) _
        have VZ:W8.heap[qb]?=some (.cells #[.string kb,.string tb,.int .i64 fb,.int .i64 eb,.slice ab nb kS] 49 (0,0)):=by rw [← LP,← Av];exact aG v5 _
        rw [LP,Av];obtain ⟨⟨l0,l1,l2,l3,l4⟩,-⟩:=aF VZ;clear LP Av;have D3:dY W1.heap.size oL (.slice (some ⟨z,0,none⟩) 1 1) 1 [.string jQ,.string jR,.int .i64 jS,.int .i64 jT,.slice jU jV jW] (W8.alloc (.cells #[.string kb,.string tb,.int .i64 fb,.int .i64 eb,.slice ab nb kS] 49)):=((Bl.out.mv qA.out.2 (by have:=dP.out.size;omega)).mv (Mv.of_below (d:=d) qJ) (by have:=dP.out.size;omega)).mv (Mv.of_below (d:=d) ((aj _ W8).alloc (ae _) _)) (by have:=dP.out.size;omega);have hbx:Below v5.heap.size v5 (W8.alloc (.cells #[.string kb,.string tb,.int .i64 fb,.int .i64 eb,.slice ab nb kS] 49)):=qJ.trans (((aj _ W8).alloc (ae _) _).mono qJ.size)
        have hsx:W1.heap.size≤(W8.alloc (.cells #[.string kb,.string tb,.int .i64 fb,.int .i64 eb,.slice ab nb kS] 49)).heap.size:=by have:=qA.out.2.size;have:=pJ.out.size;have:=hbx.size;omega
        have yj:=hid D3;have xB:=hid hbx;clear D3 hbx qJ VZ
        go_wp2_with (at_builtin;refine dG _ rfl _ _ 47 rfl W1.heap.size 49 iP _ 5 72 Tryz.underlying47 hi0 hz0 hz1 hz2 rfl (by decide) _ 1 [.string jQ,.string jR,.int .i64 jS,.int .i64 jT,.slice jU jV jW] rfl yj.out.own ⟨W8.heap.size,0,none⟩ 1 1 [.string kb,.string tb,.int .i64 fb,.int .i64 eb,.slice ab nb kS] rfl rfl (qo (aG W8 _)) qm (by unfold maxLen;omega) (by omega) hsx ?_)
        intro v' w7 bY aP _ mf
        have hrow:v'.ownBlock=(Value.slice (some ⟨z,0,none⟩) 1 1).ownBlock∨v'.ownBlock=some (W8.alloc (.cells #[.string kb,.string tb,.int .i64 fb,.int .i64 eb,.slice ab nb kS] 49)).heap.size:=by simpa using mf
        clear mf
        have hown1:∀ k,(Value.slice (some ⟨z,0,none⟩) 1 1).ownBlock=some k→W1.heap.size≤k:=fun k hk=>(yj.out.own.lt k hk).1
        have hd1:d<W1.heap.size:=by have:=dP.out.size;omega
        have sw:Hid (Rd d lv oo.at oo.aA w7):=hid (by
         have h:=qA.out.1.below xB.out
         exact (aP.block d h.lt (fun h'=>by have:=hown1 d h'.symm;omega)).trans h)
        have iN:Hid (Mv W1.heap.size d W1 w7):=hid (pJ.out.trans ((qA.out.2.mono pJ.out.size).trans (((Mv.of_below xB.out).mono (by have:=qA.out.2.size;have:=pJ.out.size;omega)).trans ⟨aP.os,aP.tape,aP.output,aP.size,fun k hk _=>aP.block k (by omega) (fun h'=>by have:=hown1 k h'.symm;omega)⟩)))
        have Ej:Hid (dY W1.heap.size (oo.next fun b k=>Out.ok [oa.pt,b] k) v' (1+1) ([.string jQ,.string jR,.int .i64 jS,.int .i64 jT,.slice jU jV jW]++[.string kb,.string tb,.int .i64 fb,.int .i64 eb,.slice ab nb kS]) w7):=hid (yj.out.snoc Bl.out (ae _) pJ.out.size Hw.out xB.out bY aP hrow (fun l j hl=>by
        cases oo with
        | bad k=>cases hl
        | ok o k =>
         cases hl
         exact ⟨[oa.pt],oa.at,o,_,by rw [← HoL.out,HOQ.out];rfl,rfl,rfl⟩))
        obtain ⟨la,lc,hv'⟩:=Ej.out.form;subst hv';clear bY aP hrow hown1 hd1 hsx;have cz:=eZ d L lv oo.at oo.aA ⟨#[100,101,102,105,110,101]⟩ ⟨#[]⟩ fr la (1+1) lc w7 sw.out (HT1.out.mv iN.out (ae _)) PG.out hL;obtain ⟨ez,jC⟩:∃ u,jY L oo.at=u:=⟨_,rfl⟩;rw [jC] at cz;have sH:=hid jC;clear jC
        go_wp2_with fail
        refine cz.mono ?_;rintro x wq ⟨rfl,hwq⟩;have Ce:=hid (iN.out.trans (hwq.2.mono iN.out.size));have EA:=hid hwq;have ow:=(af.1 jD.out).1;have jd:wq.heap[w.heap.size]?=_:=(Ce.out.block w.heap.size ow (by omega)).trans jD.out;obtain ⟨⟨r0,r1,r2,r3,r4⟩,gz⟩:=aF jd;have g0:=gz 0;have g1:=gz 1;have g2:=gz 2;have g3:=gz 3;have g4:=gz 4;have pQ:=hid jd;clear cz hwq jd gz
        go_wp2_with fail
        have hp:=dS (a':=.string ⟨#[100,101,102,105,110,101]⟩) (b':=.string ⟨#[]⟩) (c':=.int .i64 fr) (d':=.int .i64 ez) (e':=.slice la (1+1) lc) pQ.out;refine aB (v:=.agg #[.string ⟨#[100,101,102,105,110,101]⟩,.string ⟨#[]⟩,.int .i64 fr,.int .i64 ez,.slice la (1+1) lc]) (aQ rfl _ _ w.heap.size 49 #[.string ⟨#[100,101,102,105,110,101]⟩,.string ⟨#[]⟩,.int .i64 fr,.int .i64 ez,.slice la (1+1) lc] (0,0) _ (by rfl) hp Tryz.underlying49 rfl (by kernel_rfl)) rfl ?_
       rotate_left
       focus
        skip
        have hlt:oa.at<L.length:=bR HA.out;obtain ⟨oo,D7⟩:∃ u,expr L m 0 (oa.at+1)=u:=⟨_,rfl⟩
        have xn:Hid (O=oo.next fun b k=>part L pM [] fr [oa.pt,b] k):=hid (by
         rw [nM.out,HOQ.out]
         show (if bG L [61] oa.at=true then _ else _)=_
         rw [ay HA.out,← D7]
         rfl)
        have PG:Hid (oo.at≤L.length):=hid (by rw [← D7];exact ((iK m).expr _ hlt 0).le);have HAT:Hid (O.at=oo.at∧O.aA=oo.aA):=hid (by rw [xn.out];cases oo <;> exact ⟨rfl,rfl⟩)
        have zC:Hid (∀ p j,O=.ok p j→∃ K T ks j',p=.mk K T fr (jY L oo.at) ks∧aU K=⟨#[97,115,115,105,103,110]⟩∧aU T=⟨#[]⟩∧(oo.next fun b k=>Out.ok [oa.pt,b] k)=.ok ks j'):=hid (by
         intro p j fQ;rw [xn.out] at fQ
         cases oo with
         | bad j=>cases fQ
         | ok a j2 =>
          simp only [Out.next,part,Out.ok.injEq] at fQ
          exact ⟨_,_,_,j2,fQ.1.symm,rfl,rfl,rfl⟩)
        have Xf:=hid D7;clear D7
        go_wp2_with fail
        refine c8.mono ?_;rintro x w4 ⟨rfl,hw4⟩;have hw4:kz d lv (oa.at+1) false Z w4:=hw4;have pJ:=hid (qi.out.trans (hw4.2.mono qi.out.size));have BC:=hid hw4.1;have Bl:=hid (YA.out.mv hw4.2 (by have:=dP.out.size;omega));have Bh:=hid (HT1.out.mv pJ.out (ae _));clear c8 hw4;have cb:=tT d L lv hL m 0 (oa.at+1) false w4 BC.out Bh.out hlt (fun _=>by omega);rw [aW,Xf.out] at cb
        go_wp2_with fail
        refine cb.mono ?_;rintro x v5 ⟨v,rfl,⟨kb,tb,fb,eb,ab,nb,kS,rfl,hnb,hvb⟩,jA⟩;have Hw:=hid hvb;have qA:=hid jA;clear cb hvb jA hnb
        go_upto_region 33 with fail
        obtain ⟨qb,Av⟩:∃ q,v5.heap.size=q:=⟨_,rfl⟩;obtain ⟨W8,LP⟩:∃ W,v5.alloc (.cells #[.string kb,.string tb,.int .i64 fb,.int .i64 eb,.slice ab nb kS] 49)=W:=⟨_,rfl⟩
        have qJ:Below v5.heap.size v5 W8:=by rw [← LP];exact (aj _ v5).alloc (ae _) _
        have VZ:W8.heap[qb]?=some (.cells #[.string kb,.string tb,.int .i64 fb,.int .i64 eb,.slice ab nb kS] 49 (0,0)):=by rw [← LP,← Av];exact aG v5 _
        rw [LP,Av];obtain ⟨⟨l0,l1,l2,l3,l4⟩,-⟩:=aF VZ;clear LP Av;have D3:dY W1.heap.size oL (.slice (some ⟨z,0,none⟩) 1 1) 1 [.string jQ,.string jR,.int .i64 jS,.int .i64 jT,.slice jU jV jW] (W8.alloc (.cells #[.string kb,.string tb,.int .i64 fb,.int .i64 eb,.slice ab nb kS] 49)):=((Bl.out.mv qA.out.2 (by have:=dP.out.size;omega)).mv (Mv.of_below (d:=d) qJ) (by have:=dP.out.size;omega)).mv (Mv.of_below (d:=d) ((aj _ W8).alloc (ae _) _)) (by have:=dP.out.size;omega);have hbx:Below v5.heap.size v5 (W8.alloc (.cells #[.string kb,.string tb,.int .i64 fb,.int .i64 eb,.slice ab nb kS] 49)):=qJ.trans (((aj _ W8).alloc (ae _) _).mono qJ.size)
        have hsx:W1.heap.size≤(W8.alloc (.cells #[.string kb,.string tb,.int .i64 fb,.int .i64 eb,.slice ab nb kS] 49)).heap.size:=by have:=qA.out.2.size;have:=pJ.out.size;have:=hbx.size;omega
        have yj:=hid D3;have xB:=hid hbx;clear D3 hbx qJ VZ
        go_wp2_with (at_builtin;refine dG _ rfl _ _ 47 rfl W1.heap.size 49 iP _ 5 72 Tryz.underlying47 hi0 hz0 hz1 hz2 rfl (by decide) _ 1 [.string jQ,.string jR,.int .i64 jS,.int .i64 jT,.slice jU jV jW] rfl yj.out.own ⟨W8.heap.size,0,none⟩ 1 1 [.string kb,.string tb,.int .i64 fb,.int .i64 eb,.slice ab nb kS] rfl rfl (qo (aG W8 _)) qm (by unfold maxLen;omega) (by omega) hsx ?_)
        intro v' w7 bY aP _ mf
        have hrow:v'.ownBlock=(Value.slice (some ⟨z,0,none⟩) 1 1).ownBlock∨v'.ownBlock=some (W8.alloc (.cells #[.string kb,.string tb,.int .i64 fb,.int .i64 eb,.slice ab nb kS] 49)).heap.size:=by simpa using mf
        clear mf
        have hown1:∀ k,(Value.slice (some ⟨z,0,none⟩) 1 1).ownBlock=some k→W1.heap.size≤k:=fun k hk=>(yj.out.own.lt k hk).1
        have hd1:d<W1.heap.size:=by have:=dP.out.size;omega
        have sw:Hid (Rd d lv oo.at oo.aA w7):=hid (by
         have h:=qA.out.1.below xB.out
         exact (aP.block d h.lt (fun h'=>by have:=hown1 d h'.symm;omega)).trans h)
        have iN:Hid (Mv W1.heap.size d W1 w7):=hid (pJ.out.trans ((qA.out.2.mono pJ.out.size).trans (((Mv.of_below xB.out).mono (by have:=qA.out.2.size;have:=pJ.out.size;omega)).trans ⟨aP.os,aP.tape,aP.output,aP.size,fun k hk _=>aP.block k (by omega) (fun h'=>by have:=hown1 k h'.symm;omega)⟩)))
        have Ej:Hid (dY W1.heap.size (oo.next fun b k=>Out.ok [oa.pt,b] k) v' (1+1) ([.string jQ,.string jR,.int .i64 jS,.int .i64 jT,.slice jU jV jW]++[.string kb,.string tb,.int .i64 fb,.int .i64 eb,.slice ab nb kS]) w7):=hid (yj.out.snoc Bl.out (ae _) pJ.out.size Hw.out xB.out bY aP hrow (fun l j hl=>by
        cases oo with
        | bad k=>cases hl
        | ok o k =>
         cases hl
         exact ⟨[oa.pt],oa.at,o,_,by rw [← HoL.out,HOQ.out];rfl,rfl,rfl⟩))
        obtain ⟨la,lc,hv'⟩:=Ej.out.form;subst hv';clear bY aP hrow hown1 hd1 hsx;have cz:=eZ d L lv oo.at oo.aA ⟨#[97,115,115,105,103,110]⟩ ⟨#[]⟩ fr la (1+1) lc w7 sw.out (HT1.out.mv iN.out (ae _)) PG.out hL;obtain ⟨ez,jC⟩:∃ u,jY L oo.at=u:=⟨_,rfl⟩;rw [jC] at cz;have sH:=hid jC;clear jC
        go_wp2_with fail
        refine cz.mono ?_;rintro x wq ⟨rfl,hwq⟩;have Ce:=hid (iN.out.trans (hwq.2.mono iN.out.size));have EA:=hid hwq;have ow:=(af.1 jD.out).1;have jd:wq.heap[w.heap.size]?=_:=(Ce.out.block w.heap.size ow (by omega)).trans jD.out;obtain ⟨⟨r0,r1,r2,r3,r4⟩,gz⟩:=aF jd;have g0:=gz 0;have g1:=gz 1;have g2:=gz 2;have g3:=gz 3;have g4:=gz 4;have pQ:=hid jd;clear cz hwq jd gz
        go_wp2_with fail
        have hp:=dS (a':=.string ⟨#[97,115,115,105,103,110]⟩) (b':=.string ⟨#[]⟩) (c':=.int .i64 fr) (d':=.int .i64 ez) (e':=.slice la (1+1) lc) pQ.out;refine aB (v:=.agg #[.string ⟨#[97,115,115,105,103,110]⟩,.string ⟨#[]⟩,.int .i64 fr,.int .i64 ez,.slice la (1+1) lc]) (aQ rfl _ _ w.heap.size 49 #[.string ⟨#[97,115,115,105,103,110]⟩,.string ⟨#[]⟩,.int .i64 fr,.int .i64 ez,.slice la (1+1) lc] (0,0) _ (by rfl) hp Tryz.underlying49 rfl (by kernel_rfl)) rfl ?_
       rotate_left
       all_goals
        rw [← HQ.out];refine dO hd (dP.out.trans (Ce.out.mono dP.out.size)) EA.out.1 HAT.out.1 HAT.out.2 ?_ ⟨ae _,ae _⟩;refine nI (Ej.out.mv EA.out.2 (by omega)) (fun g hg=>by omega) (by omega) (fun p j fQ=>?_);rw [← sH.out]
        exact zC.out p j fQ
      ·rw [fw] at k2
       have HAT:Hid (O.at=oa.at∧O.aA=oa.aA):=hid (by
        rw [nM.out]
        cases oa with
        | ok a j=>cases fw
        | bad j=>exact ⟨rfl,rfl⟩)
       have Zg:Hid (∀ p j,O=.ok p j→∃ j',oa=.ok p j'):=hid (by
        intro p j fQ;rw [nM.out] at fQ
        cases oa with
        | ok a j=>cases fw
        | bad j=>cases fQ)
       clear fw;have ma:=(pI.out.block oG (af.1 ni.out).1 (by have:=jJ.out;have:=dP.out.size;omega)).trans ni.out;obtain ⟨⟨vY,vZ,wm,wu,wy⟩,-⟩:=aF ma;clear ma;have ow:=(af.1 jD.out).1;have jd:V8.heap[w.heap.size]?=_:=(lF.out.block w.heap.size ow (by omega)).trans jD.out;obtain ⟨⟨r0,r1,r2,r3,r4⟩,gz⟩:=aF jd;have g0:=gz 0;have g1:=gz 1;have g2:=gz 2;have g3:=gz 3;have g4:=gz 4;have pQ:=hid jd;clear gz jd
       go_wp2_with fail
       have hp:=dS (a':=.string jQ) (b':=.string jR) (c':=.int .i64 jS) (d':=.int .i64 jT) (e':=.slice jU jV jW) pQ.out;refine aB (v:=.agg #[.string jQ,.string jR,.int .i64 jS,.int .i64 jT,.slice jU jV jW]) (aQ rfl _ _ w.heap.size 49 #[.string jQ,.string jR,.int .i64 jS,.int .i64 jT,.slice jU jV jW] (0,0) _ (by rfl) hp Tryz.underlying49 rfl (by kernel_rfl)) rfl ?_;rw [← HQ.out];refine dO hd (dP.out.trans (lF.out.mono dP.out.size)) tY.out HAT.out.1 HAT.out.2 ?_ ⟨ae _,ae _⟩;have hsz:=dP.out.size;refine ⟨_,_,_,_,_,_,_,rfl,xA.out,fun p j fQ=>?_⟩;obtain ⟨j',hj'⟩:=Zg.out p j fQ;obtain ⟨u1,u2⟩:=rU.out p j' hj';refine ⟨u1,?_⟩;have s1:Mv w8.heap.size d w8 V8:=lK.out.trans (pI.out.mono lK.out.size)
       exact u2.later (R':=fun g=>w.heap.size<g) (s1.still (ae _) (fun g hg=>by have:=jJ.out;omega)) (fun g hg=>by have:=jJ.out;omega)
     ·skip
      have hb:b=false∧bG L dN i=true:=by simpa using HRR.out
      obtain ⟨rfl,his⟩:=hb;have hil:i<L.length:=bR his;obtain ⟨m,rfl⟩:∃ m,n=m+1:=⟨n - 1,by have:=HN.out (by trivial);omega⟩;have hfu:=HN.out rfl
      have XW:Hid (O=if bT L 5 (i+1)∨bG L [125] (i+1) then part L dN [] fr [] (i+1) else (expr L m 0 (i+1)).next fun e j=>part L dN [] fr [e] j):=hid (by
       rw [← HO.out,← Aq.out,aW,pK,ai (by rw [show bG L jg i=false by simpa using Ey.out];decide),ai (by rw [show bG L kJ i=false by simpa using HRI.out];decide),ai (by rw [show bG L [123] i=false by simpa using HRB.out];decide),ai (by rw [show bG L lJ i=false by simpa using HRF.out];decide),ay his])
      have sJ:Hid (oZ L (i+1) false (Out.ok () (i+1):Out Unit)):=hid ⟨ae _,hil,fun _=>rfl⟩;have HIS:=hid his;clear his
      go_wp2_with fail
      refine c7.mono ?_;intro x w7 h9;obtain ⟨rfl,dV⟩:=h9.went Ad.out;have iN:=hid (nW.out.trans (dV.2.mono nW.out.size));have sw:=hid dV.1;clear c7 h9 dV;have ct:=fE d L lv i false dN w7 sw.out (HT1.out.mv iN.out (ae _)) (by omega);rw [show (!false&&bG L dN i)=true from HIS.out,show aU dN=⟨#[114,101,116,117,114,110]⟩ from rfl] at ct
      go_wp2_with fail
      refine ct.mono ?_;rintro x w8 ⟨rfl,dV⟩;have dV:kz d lv (i+1) false w7 w8:=dV;have lF:=hid (iN.out.trans (dV.2.mono iN.out.size));have tY:=hid dV.1;clear ct dV;have c5:=pF d L lv (i+1) false 5 w8 tY.out (HT1.out.mv lF.out (ae _));obtain ⟨R5,Zs⟩:∃ R,bT L 5 (i+1)=R:=⟨_,rfl⟩;rw [show (!false&&bT L 5 (i+1))=R5 from Zs] at c5;have H5:=hid Zs;clear Zs
      cases R5
      focus
       go_wp2_with fail
       refine c5.mono ?_;intro x w9 h9;obtain ⟨rfl,dV⟩:=h9.went tY.out;have kF:=hid (lF.out.trans (dV.2.mono lF.out.size));have zx:=hid dV.1;have c6:=iM d L lv (i+1) false [125] w9 zx.out (HT1.out.mv kF.out (ae _));rw [show aU [125]=⟨#[125]⟩ from rfl] at c6;obtain ⟨R6,PU⟩:∃ R,bG L [125] (i+1)=R:=⟨_,rfl⟩;rw [show (!false&&bG L [125] (i+1))=R6 from PU] at c6;have H6:=hid PU;clear c5 h9 dV PU
       cases R6
       ·obtain ⟨oe,hoe⟩:∃ u,start false (i+1) (expr L m 0 (i+1))=u:=⟨_,rfl⟩
        have qW:Hid (O=oe.next fun e j=>part L dN [] fr [e] j):=hid (by
         rw [XW.out,ai (by rw [H5.out,H6.out];decide),← hoe,aW])
        have xk:Hid (oZ L (i+1) false oe):=hid (by rw [← hoe];exact .begun hil ((iK m).expr _ hil 0).toFw);have HAT:Hid (O.at=oe.at∧O.aA=oe.aA):=hid (by rw [qW.out];cases oe <;> exact ⟨rfl,rfl⟩)
        have Ni:Hid (∀ p j,O=.ok p j→∃ K T uG,p=.mk K T fr (jY L oe.at) [uG]∧aU K=⟨#[114,101,116,117,114,110]⟩∧aU T=⟨#[]⟩∧∃ Ar,oe=.ok uG Ar):=hid (by
         intro p j fQ;rw [qW.out] at fQ
         cases oe with
         | bad j=>cases fQ
         | ok a j2 =>
          simp only [Out.next,part,Out.ok.injEq] at fQ
          exact ⟨_,_,_,fQ.1.symm,rfl,rfl,_,rfl⟩)
        have Y9:=hid hoe;clear hoe
        go_wp2_with fail
        refine c6.mono ?_;intro x qX h9;obtain ⟨rfl,dV⟩:=h9.went zx.out;have rV:=hid (kF.out.trans (dV.2.mono kF.out.size));have yg:=hid dV.1;clear c6 h9 dV;have c11:=tT d L lv hL m 0 (i+1) false qX yg.out (HT1.out.mv rV.out (ae _)) sJ.out.le (fun _=>by have:=sJ.out.ge;omega);rw [Y9.out] at c11
        go_wp2_with fail
        refine c11.mono ?_;rintro x A9 ⟨v,rfl,⟨jQ,jR,jS,jT,jU,jV,jW,rfl,kU,ng⟩,CV⟩;have rU:=hid ng;have xA:=hid kU;clear kU;have jb:=hid CV;clear c11 ng CV
        go_upto_region 18 with fail
        obtain ⟨oG,ji⟩:∃ q,A9.heap.size=q:=⟨_,rfl⟩;obtain ⟨Mg,Wl⟩:∃ V,A9.alloc (.cells #[.string jQ,.string jR,.int .i64 jS,.int .i64 jT,.slice jU jV jW] 49)=V:=⟨_,rfl⟩
        have vM:Below A9.heap.size A9 Mg:=by rw [← Wl];exact (aj _ A9).alloc (ae _) _
        have ni:Hid (Mg.heap[oG]?=some (.cells #[.string jQ,.string jR,.int .i64 jS,.int .i64 jT,.slice jU jV jW] 49 (0,0))):=hid (by rw [← Wl,← ji];exact aG A9 _);have lK:Hid (Mv A9.heap.size d A9 Mg):=hid (Mv.of_below vM);have jJ:Hid (W1.heap.size≤qX.heap.size∧qX.heap.size≤A9.heap.size∧oG=A9.heap.size):=hid ⟨rV.out.size,jb.out.2.size,ji.symm⟩;rw [Wl,ji];have H7:=hid ((rV.out.trans (jb.out.2.mono rV.out.size)).trans ((Mv.of_below vM).mono (aJ rV.out.size jb.out.2.size)));have Za:=hid (jb.out.1.below vM)
        skip
        clear Wl vM ji;have qM:Hid (Mv Mg.heap.size d Mg Mg):=hid (Mv.refl _ _ _);have ma:=(qM.out.block oG (af.1 ni.out).1 (by have:=jJ.out;have:=dP.out.size;omega)).trans ni.out;obtain ⟨⟨vY,vZ,wm,wu,wy⟩,-⟩:=aF ma;have Tg:=hid ma;clear ma;obtain ⟨z,hz⟩:∃ z,Mg.heap.size=z:=⟨_,rfl⟩;obtain ⟨Z,hZ⟩:∃ Z,Mg.alloc (.cells #[.string jQ,.string jR,.int .i64 jS,.int .i64 jT,.slice jU jV jW] 49)=Z:=⟨_,rfl⟩
        have hzb:Below Mg.heap.size Mg Z:=by rw [← hZ];exact (aj _ Mg).alloc (ae _) _
        have xz:Hid (Z.heap[z]?=some (.cells #[.string jQ,.string jR,.int .i64 jS,.int .i64 jT,.slice jU jV jW] 49 (0,0))):=hid (by rw [← hZ,← hz];exact aG Mg _);have qi:=hid (H7.out.trans ((Mv.of_below hzb).mono H7.out.size));have Bg:=hid (Za.out.below hzb);have Ex:=hid (Mv.of_below (d:=d) hzb);have HZ:=hid hz;have cz:=eZ d L lv oe.at oe.aA ⟨#[114,101,116,117,114,110]⟩ ⟨#[]⟩ fr (some ⟨z,0,none⟩) 1 1 Z Bg.out (HT1.out.mv qi.out (ae _)) xk.out.le hL;obtain ⟨ez,jC⟩:∃ e,jY L oe.at=e:=⟨_,rfl⟩;rw [jC] at cz;have sH:=hid jC;rw [← hz] at cz;clear hzb jC hz
        go_wp2_with fail
        try rw [hZ]
        refine cz.mono ?_;rintro x w7 ⟨rfl,hw7⟩;have iN:=hid (qi.out.trans (hw7.2.mono qi.out.size));have ow:=(af.1 jD.out).1;have jd:w7.heap[w.heap.size]?=_:=(iN.out.block w.heap.size ow (by omega)).trans jD.out;obtain ⟨⟨r0,r1,r2,r3,r4⟩,gz⟩:=aF jd;have g0:=gz 0;have g1:=gz 1;have g2:=gz 2;have g3:=gz 3;have g4:=gz 4;have pQ:=hid jd;have sD:=hid hw7;have xq:=hid hZ;clear cz hw7 jd gz hZ vY vZ wm wu wy
        go_wp2_with fail
        have hp:=dS (a':=.string ⟨#[114,101,116,117,114,110]⟩) (b':=.string ⟨#[]⟩) (c':=.int .i64 fr) (d':=.int .i64 ez) (e':=.slice (some ⟨Mg.heap.size,0,none⟩) 1 1) pQ.out;refine aB (v:=.agg #[.string ⟨#[114,101,116,117,114,110]⟩,.string ⟨#[]⟩,.int .i64 fr,.int .i64 ez,.slice (some ⟨Mg.heap.size,0,none⟩) 1 1]) (aQ rfl _ _ w.heap.size 49 #[.string ⟨#[114,101,116,117,114,110]⟩,.string ⟨#[]⟩,.int .i64 fr,.int .i64 ez,.slice (some ⟨Mg.heap.size,0,none⟩) 1 1] (0,0) _ (by rfl) hp Tryz.underlying49 rfl (by kernel_rfl)) rfl ?_;rw [← HQ.out];refine dO hd (dP.out.trans (iN.out.mono dP.out.size)) sD.out.1 HAT.out.1 HAT.out.2 ?_ ⟨ae _,ae _⟩;have hsz:=dP.out.size;have yA:w7.heap[z]?=_:=(sD.out.2.block z (af.1 xz.out).1 (by have:=H7.out.size;have:=HZ.out;omega)).trans xz.out;rw [HZ.out];refine kN yA (by have:=H7.out.size;have:=HZ.out;omega) (fun p j fQ=>?_) (by omega) (ae _);obtain ⟨K,T,uG,h0,hK,hT,Ar,hx0⟩:=Ni.out p j fQ;refine ⟨K,T,[uG],by rw [← sH.out];exact h0,hK,hT,rfl,?_⟩;obtain ⟨LW,xY⟩:=rU.out uG Ar hx0;have J4:Mv A9.heap.size d A9 w7:=lK.out.trans (((qM.out.trans (Ex.out.mono qM.out.size)).trans (sD.out.2.mono (aJ qM.out.size Ex.out.size))).mono lK.out.size);have LX:=xY.later (R':=fun g=>w.heap.size<g) (J4.still (ae _) (fun g hg=>by have:=jJ.out;omega)) (fun g hg=>by have:=jJ.out;omega)
        show aO w7 _ _ ([.string jQ,.string jR,.int .i64 jS,.int .i64 jT,.slice jU jV jW]++[])
        rw [jF LW]
        exact ⟨_,_,rfl,LX,rfl⟩
       skip
       have qW:Hid (O=part L dN [] fr [] (i+1)):=hid (by rw [XW.out,ay (.inr H6.out)]);have HAT:Hid (O.at=i+1∧O.aA=false):=hid (by rw [qW.out];exact ⟨rfl,rfl⟩)
       have Er:Hid (∀ {W:World} {R:Nat→Prop} (ez:Int),jY L (i+1)=ez→qh W R O (.agg #[.string ⟨#[114,101,116,117,114,110]⟩,.string ⟨#[]⟩,.int .i64 fr,.int .i64 ez,.slice none 0 0])):=hid (by
        intro ez jC;refine ⟨_,_,_,_,_,_,_,rfl,by omega,fun p j fQ=>?_⟩;rw [qW.out] at fQ;simp only [part,Out.ok.injEq] at fQ;obtain ⟨rfl,rfl⟩:=fQ;rw [jC]
        exact ⟨rfl,wV _ _ _ _ _ _⟩)
       go_wp2_with fail
       refine c6.mono ?_;intro x qX h9;obtain ⟨rfl,dV⟩:=h9.went zx.out;have rV:=hid (kF.out.trans (dV.2.mono kF.out.size));have yg:=hid dV.1;clear c6 h9 dV;have qi:=rV;have cz:=eZ d L lv (i+1) false ⟨#[114,101,116,117,114,110]⟩ ⟨#[]⟩ fr none 0 0 qX yg.out (HT1.out.mv rV.out (ae _)) sJ.out.le hL
      rotate_left
      focus
       skip
       have qW:Hid (O=part L dN [] fr [] (i+1)):=hid (by rw [XW.out,ay (.inl H5.out)]);have HAT:Hid (O.at=i+1∧O.aA=false):=hid (by rw [qW.out];exact ⟨rfl,rfl⟩)
       have Er:Hid (∀ {W:World} {R:Nat→Prop} (ez:Int),jY L (i+1)=ez→qh W R O (.agg #[.string ⟨#[114,101,116,117,114,110]⟩,.string ⟨#[]⟩,.int .i64 fr,.int .i64 ez,.slice none 0 0])):=hid (by
        intro ez jC;refine ⟨_,_,_,_,_,_,_,rfl,by omega,fun p j fQ=>?_⟩;rw [qW.out] at fQ;simp only [part,Out.ok.injEq] at fQ;obtain ⟨rfl,rfl⟩:=fQ;rw [jC]
        exact ⟨rfl,wV _ _ _ _ _ _⟩)
       go_wp2_with fail
       refine c5.mono ?_;intro x w9 h9;obtain ⟨rfl,dV⟩:=h9.went tY.out;have kF:=hid (lF.out.trans (dV.2.mono lF.out.size));have zx:=hid dV.1;clear c5 h9 dV;have qi:=kF;have cz:=eZ d L lv (i+1) false ⟨#[114,101,116,117,114,110]⟩ ⟨#[]⟩ fr none 0 0 w9 zx.out (HT1.out.mv kF.out (ae _)) sJ.out.le hL
      rotate_left
      all_goals
       obtain ⟨ez,jC⟩:∃ e,jY L (i+1)=e:=⟨_,rfl⟩;rw [jC] at cz;have sH:=hid jC;clear jC
       go_wp2_with fail
       refine cz.mono ?_;rintro x w7 ⟨rfl,hw7⟩;have iN:=hid (qi.out.trans (hw7.2.mono qi.out.size));have ow:=(af.1 jD.out).1;have jd:w7.heap[w.heap.size]?=_:=(iN.out.block w.heap.size ow (by omega)).trans jD.out;obtain ⟨⟨r0,r1,r2,r3,r4⟩,gz⟩:=aF jd;have g0:=gz 0;have g1:=gz 1;have g2:=gz 2;have g3:=gz 3;have g4:=gz 4;have pQ:=hid jd;have sD:=hid hw7;clear cz hw7 jd gz
       go_wp2_with fail
       have hp:=dS (a':=.string ⟨#[114,101,116,117,114,110]⟩) (b':=.string ⟨#[]⟩) (c':=.int .i64 fr) (d':=.int .i64 ez) (e':=.slice none 0 0) pQ.out;refine aB (v:=.agg #[.string ⟨#[114,101,116,117,114,110]⟩,.string ⟨#[]⟩,.int .i64 fr,.int .i64 ez,.slice none 0 0]) (aQ rfl _ _ w.heap.size 49 #[.string ⟨#[114,101,116,117,114,110]⟩,.string ⟨#[]⟩,.int .i64 fr,.int .i64 ez,.slice none 0 0] (0,0) _ (by rfl) hp Tryz.underlying49 rfl (by kernel_rfl)) rfl ?_;rw [← HQ.out];refine dO hd (dP.out.trans (iN.out.mono dP.out.size)) sD.out.1 HAT.out.1 HAT.out.2 ?_ ⟨ae _,ae _⟩
       exact Er.out _ sH.out
    ·skip
     have hb:b=false∧bG L lJ i=true:=by simpa using HRF.out
     obtain ⟨rfl,his⟩:=hb;have hil:i<L.length:=bR his;obtain ⟨m,rfl⟩:∃ m,n=m+1:=⟨n - 1,by have:=HN.out (by trivial);omega⟩;have hfu:=HN.out rfl;obtain ⟨oe,hoe⟩:∃ u,start false (i+1) (expr L m 0 (i+1))=u:=⟨_,rfl⟩;obtain ⟨ob,fw⟩:∃ u,start oe.aA oe.at (block L m oe.at)=u:=⟨_,rfl⟩
     have qW:Hid (O=ob.next fun _ k=>part L lJ [] fr [oe.pt,ob.pt] k):=hid (by
      rw [← HO.out,← Aq.out,aW,pK,ai (by rw [show bG L jg i=false by simpa using Ey.out];decide),ai (by rw [show bG L kJ i=false by simpa using HRI.out];decide),ai (by rw [show bG L [123] i=false by simpa using HRB.out];decide),ay his,← fw,← aW (i+1) (expr L m 0 (i+1)),hoe]
      cases oe with
      | bad j=>rfl
      | ok e j =>
       show ((block L m j).next fun b k=>part L lJ [] (bQ L i) [e,b] k)=(block L m j).next fun _ k=>part L lJ [] (bQ L i) [e,(block L m j).pt] k
       cases block L m j <;> rfl)
     have sJ:Hid (oZ L (i+1) false (Out.ok () (i+1):Out Unit)):=hid ⟨ae _,hil,fun _=>rfl⟩;have xk:Hid (oZ L (i+1) false oe):=hid (by rw [← hoe];exact .begun hil ((iK m).expr _ hil 0).toFw);have D4:Hid (oZ L (i+1) false ob):=hid (by rw [← fw];exact xk.out.step ((nk L m).block _ xk.out.le).toFw);have HAT:Hid (O.at=ob.at∧O.aA=ob.aA):=hid (by rw [qW.out];cases ob <;> exact ⟨rfl,rfl⟩)
     have Ni:Hid (∀ p j,O=.ok p j→∃ K T uG Ks,p=.mk K T fr (jY L ob.at) [uG,Ks]∧aU K=⟨#[102,111,114]⟩∧aU T=⟨#[]⟩∧∃ Ar,oe=.ok uG Ar∧∃ Tm,ob=.ok Ks Tm):=hid (by
      intro p j fQ;rw [qW.out] at fQ
      cases hb:ob.aA
      ·have h1:=jG hb
       have h2:=hb;rw [← fw] at h2;have h3:=jG (jq h2).1;rw [h1] at fQ;simp only [Out.next,part,Out.ok.injEq] at fQ
       exact ⟨_,_,_,_,fQ.1.symm,rfl,rfl,_,h3,_,h1⟩
      ·cases ob with
       | ok a j=>cases hb
       | bad j=>cases fQ)
     have HIS:=hid his;have Y9:=hid hoe;have Xe:=hid fw;clear his hoe fw
     go_wp2_with fail
     refine c6.mono ?_;intro x w6 h9;obtain ⟨rfl,dV⟩:=h9.went uV.out;have nW:=hid (mK.out.trans (dV.2.mono mK.out.size));have Ad:=hid dV.1;clear c6 h9 dV;have ct:=fE d L lv i false lJ w6 Ad.out (HT1.out.mv nW.out (ae _)) (by omega);rw [show (!false&&bG L lJ i)=true from HIS.out,show aU lJ=⟨#[102,111,114]⟩ from rfl] at ct
     go_wp2_with fail
     refine ct.mono ?_;rintro x w7 ⟨rfl,dV⟩;have dV:kz d lv (i+1) false w6 w7:=dV;have iN:=hid (nW.out.trans (dV.2.mono nW.out.size));have sw:=hid dV.1;clear ct dV;have c8:=tT d L lv hL m 0 (i+1) false w7 sw.out (HT1.out.mv iN.out (ae _)) sJ.out.le (fun _=>by have:=sJ.out.ge;omega);rw [Y9.out] at c8
     go_wp2_with fail
     refine c8.mono ?_;rintro x w8 ⟨v,rfl,⟨jQ,jR,jS,jT,jU,jV,jW,rfl,kU,ng⟩,hw8⟩;have rU:=hid ng;have xA:=hid kU;clear kU;have jb:=hid hw8;clear c8 ng hw8
     go_upto_region 11 with fail
     obtain ⟨oG,ji⟩:∃ q,w8.heap.size=q:=⟨_,rfl⟩;obtain ⟨V8,Hz⟩:∃ V,w8.alloc (.cells #[.string jQ,.string jR,.int .i64 jS,.int .i64 jT,.slice jU jV jW] 49)=V:=⟨_,rfl⟩
     have qJ:Below w8.heap.size w8 V8:=by rw [← Hz];exact (aj _ w8).alloc (ae _) _
     have ni:Hid (V8.heap[oG]?=some (.cells #[.string jQ,.string jR,.int .i64 jS,.int .i64 jT,.slice jU jV jW] 49 (0,0))):=hid (by rw [← Hz,← ji];exact aG w8 _);have lK:Hid (Mv w8.heap.size d w8 V8):=hid (Mv.of_below qJ);have jJ:Hid (W1.heap.size≤w7.heap.size∧w7.heap.size≤w8.heap.size∧oG=w8.heap.size):=hid ⟨iN.out.size,jb.out.2.size,ji.symm⟩;rw [Hz,ji];have lF:=hid ((iN.out.trans (jb.out.2.mono iN.out.size)).trans ((Mv.of_below qJ).mono (aJ iN.out.size jb.out.2.size)));have tY:=hid (jb.out.1.below qJ)
     skip
     clear Hz qJ ji;have pI:Hid (Mv V8.heap.size d V8 V8):=hid (Mv.refl _ _ _);have c9:=HIB.out m rfl oe.at oe.aA V8 tY.out (HT1.out.mv lF.out (ae _)) xk.out.le (fun _=>by have:=xk.out.ge;omega);rw [Xe.out] at c9
     go_wp2_with fail
     refine c9.mono ?_;rintro x w9 ⟨v,rfl,⟨FQ,FR,FT,FU,FV,FW,FX,rfl,Bi,J8⟩,dV⟩;have Tn:=hid J8;have Xd:=hid Bi;clear Bi;have tQ:=hid dV;clear c9 J8 dV
     go_upto_region 12 with fail
     obtain ⟨Tp,zy⟩:∃ q,w9.heap.size=q:=⟨_,rfl⟩;obtain ⟨V9,hV9⟩:∃ V,w9.alloc (.cells #[.string FQ,.string FR,.int .i64 FT,.int .i64 FU,.slice FV FW FX] 49)=V:=⟨_,rfl⟩
     have nV:Below w9.heap.size w9 V9:=by rw [← hV9];exact (aj _ w9).alloc (ae _) _
     have Ka:Hid (V9.heap[Tp]?=some (.cells #[.string FQ,.string FR,.int .i64 FT,.int .i64 FU,.slice FV FW FX] 49 (0,0))):=hid (by rw [← hV9,← zy];exact aG w9 _);have Kb:Hid (Mv w9.heap.size d w9 V9):=hid (Mv.of_below nV);have DY:Hid (W1.heap.size≤V8.heap.size∧V8.heap.size≤w9.heap.size∧Tp=w9.heap.size):=hid ⟨lF.out.size,tQ.out.2.size,zy.symm⟩;rw [hV9,zy];have kF:=hid ((lF.out.trans (tQ.out.2.mono lF.out.size)).trans ((Mv.of_below nV).mono (aJ lF.out.size tQ.out.2.size)));have zx:=hid (tQ.out.1.below nV);have qC:=hid (pI.out.trans ((tQ.out.2.trans ((Mv.of_below nV).mono tQ.out.2.size)).mono pI.out.size));clear hV9 nV zy;have Ie:Hid (Mv V9.heap.size d V9 V9):=hid (Mv.refl _ _ _);have ma:=(qC.out.block oG (af.1 ni.out).1 (by have:=jJ.out;have:=dP.out.size;omega)).trans ni.out;obtain ⟨⟨vY,vZ,wm,wu,wy⟩,-⟩:=aF ma;have Tg:=hid ma;clear ma;have Ez:=(Ie.out.block Tp (af.1 Ka.out).1 (by have:=DY.out;have:=dP.out.size;omega)).trans Ka.out;obtain ⟨⟨Tq,Tt,Tu,Tv,Tw⟩,-⟩:=aF Ez;have afN:=hid Ez;clear Ez;obtain ⟨z,hz⟩:∃ z,V9.heap.size=z:=⟨_,rfl⟩;obtain ⟨Z,hZ⟩:∃ Z,V9.alloc (.cells #[.string jQ,.string jR,.int .i64 jS,.int .i64 jT,.slice jU jV jW,.string FQ,.string FR,.int .i64 FT,.int .i64 FU,.slice FV FW FX] 49)=Z:=⟨_,rfl⟩
     have hzb:Below V9.heap.size V9 Z:=by rw [← hZ];exact (aj _ V9).alloc (ae _) _
     have xz:Hid (Z.heap[z]?=some (.cells #[.string jQ,.string jR,.int .i64 jS,.int .i64 jT,.slice jU jV jW,.string FQ,.string FR,.int .i64 FT,.int .i64 FU,.slice FV FW FX] 49 (0,0))):=hid (by rw [← hZ,← hz];exact aG V9 _);have qi:=hid (kF.out.trans ((Mv.of_below hzb).mono kF.out.size));have Bg:=hid (zx.out.below hzb);have Ex:=hid (Mv.of_below (d:=d) hzb);have HZ:=hid hz;have cz:=eZ d L lv ob.at ob.aA ⟨#[102,111,114]⟩ ⟨#[]⟩ fr (some ⟨z,0,none⟩) 2 2 Z Bg.out (HT1.out.mv qi.out (ae _)) D4.out.le hL;obtain ⟨ez,jC⟩:∃ e,jY L ob.at=e:=⟨_,rfl⟩;rw [jC] at cz;have sH:=hid jC;rw [← hz] at cz;clear hzb jC hz
     go_wp2_with fail
     try rw [hZ]
     refine cz.mono ?_;rintro x w7 ⟨rfl,hw7⟩;have iN:=hid (qi.out.trans (hw7.2.mono qi.out.size));have ow:=(af.1 jD.out).1;have jd:w7.heap[w.heap.size]?=_:=(iN.out.block w.heap.size ow (by omega)).trans jD.out;obtain ⟨⟨r0,r1,r2,r3,r4⟩,gz⟩:=aF jd;have g0:=gz 0;have g1:=gz 1;have g2:=gz 2;have g3:=gz 3;have g4:=gz 4;have pQ:=hid jd;have sD:=hid hw7;have xq:=hid hZ;clear cz hw7 jd gz hZ vY vZ wm wu wy Tq Tt Tu Tv Tw
     go_wp2_with fail
     have hp:=dS (a':=.string ⟨#[102,111,114]⟩) (b':=.string ⟨#[]⟩) (c':=.int .i64 fr) (d':=.int .i64 ez) (e':=.slice (some ⟨V9.heap.size,0,none⟩) 2 2) pQ.out;refine aB (v:=.agg #[.string ⟨#[102,111,114]⟩,.string ⟨#[]⟩,.int .i64 fr,.int .i64 ez,.slice (some ⟨V9.heap.size,0,none⟩) 2 2]) (aQ rfl _ _ w.heap.size 49 #[.string ⟨#[102,111,114]⟩,.string ⟨#[]⟩,.int .i64 fr,.int .i64 ez,.slice (some ⟨V9.heap.size,0,none⟩) 2 2] (0,0) _ (by rfl) hp Tryz.underlying49 rfl (by kernel_rfl)) rfl ?_;rw [← HQ.out];refine dO hd (dP.out.trans (iN.out.mono dP.out.size)) sD.out.1 HAT.out.1 HAT.out.2 ?_ ⟨ae _,ae _⟩;have hsz:=dP.out.size;have yA:w7.heap[z]?=_:=(sD.out.2.block z (af.1 xz.out).1 (by have:=kF.out.size;have:=HZ.out;omega)).trans xz.out;rw [HZ.out];refine kN yA (by have:=kF.out.size;have:=HZ.out;omega) (fun p j fQ=>?_) (by omega) (ae _);obtain ⟨K,T,uG,Ks,h0,hK,hT,Ar,hx0,Tm,hx1⟩:=Ni.out p j fQ;refine ⟨K,T,[uG,Ks],by rw [← sH.out];exact h0,hK,hT,rfl,?_⟩;obtain ⟨LW,xY⟩:=rU.out uG Ar hx0;have J4:Mv w8.heap.size d w8 w7:=lK.out.trans (((qC.out.trans (Ex.out.mono qC.out.size)).trans (sD.out.2.mono (aJ qC.out.size Ex.out.size))).mono lK.out.size);have LX:=xY.later (R':=fun g=>w.heap.size<g) (J4.still (ae _) (fun g hg=>by have:=jJ.out;omega)) (fun g hg=>by have:=jJ.out;omega);obtain ⟨ux1,Tx⟩:=Tn.out Ks Tm hx1;have sx1:Mv w9.heap.size d w9 w7:=Kb.out.trans (((Ie.out.trans (Ex.out.mono Ie.out.size)).trans (sD.out.2.mono (aJ Ie.out.size Ex.out.size))).mono Kb.out.size)
     have ix1:=Tx.later (R':=fun g=>w.heap.size<g) (sx1.still (ae _) (fun g hg=>by have:=DY.out;omega)) (fun g hg=>by have:=DY.out;omega)
     show aO w7 _ _ ([.string jQ,.string jR,.int .i64 jS,.int .i64 jT,.slice jU jV jW]++[.string FQ,.string FR,.int .i64 FT,.int .i64 FU,.slice FV FW FX]++[])
     rw [jF LW,jF ux1];simp only [dC]
     exact ⟨_,_,rfl,LX,⟨_,_,rfl,ix1,rfl⟩⟩
   ·skip
    have hb:b=false∧bG L [123] i=true:=by simpa using HRB.out
    obtain ⟨rfl,his⟩:=hb;have hil:i<L.length:=bR his;obtain ⟨m,rfl⟩:∃ m,n=m+1:=⟨n - 1,by have:=HN.out (by trivial);omega⟩;have hfu:=HN.out rfl
    have qW:Hid (O=block L m i):=hid (by
     rw [← HO.out,aW,pK,ai (by rw [show bG L jg i=false by simpa using Ey.out];decide),ai (by rw [show bG L kJ i=false by simpa using HRI.out];decide),ay his])
    clear his
    go_wp2_with fail
    refine c5.mono ?_;intro x w5 h9;obtain ⟨rfl,dV⟩:=h9.went HR4.out;have mK:=hid (mJ.out.trans (dV.2.mono mJ.out.size));have uV:=hid dV.1;clear c5 h9 dV;have cc:=HIB.out m rfl i false w5 uV.out (HT1.out.mv mK.out (ae _)) hi (fun _=>by omega);rw [aW,← qW.out] at cc
    go_wp2_with fail
    refine cc.mono ?_;rintro x w9 ⟨v,rfl,⟨kx,tx,fx,ex,ax,nx,cx,rfl,hnx,FY⟩,dV⟩;have kF:=hid (mK.out.trans (dV.2.mono mK.out.size));have ow:=(af.1 jD.out).1;have jd:w9.heap[w.heap.size]?=_:=(kF.out.block w.heap.size ow (by omega)).trans jD.out;obtain ⟨⟨r0,r1,r2,r3,r4⟩,gz⟩:=aF jd;have g0:=gz 0;have g1:=gz 1;have g2:=gz 2;have g3:=gz 3;have g4:=gz 4;have pQ:=hid jd;have zx:=hid dV.1;have Xg:=hid FY;clear cc dV jd gz FY
    go_wp2_with fail
    have hp:=dS (a':=.string kx) (b':=.string tx) (c':=.int .i64 fx) (d':=.int .i64 ex) (e':=.slice ax nx cx) pQ.out;refine aB (v:=.agg #[.string kx,.string tx,.int .i64 fx,.int .i64 ex,.slice ax nx cx]) (aQ rfl _ _ w.heap.size 49 #[.string kx,.string tx,.int .i64 fx,.int .i64 ex,.slice ax nx cx] (0,0) _ (by rfl) hp Tryz.underlying49 rfl (by kernel_rfl)) rfl ?_;rw [← HQ.out];refine dO hd (dP.out.trans (kF.out.mono dP.out.size)) zx.out rfl rfl ?_ ⟨ae _,ae _⟩;have hsz:=dP.out.size;have hsz2:=mK.out.size
    exact ⟨_,_,_,_,_,_,_,rfl,hnx,fun p j fQ=>⟨(Xg.out p j fQ).1,(Xg.out p j fQ).2.later (fun _ _ _=>rfl) (fun g hg=>by omega)⟩⟩
  ·skip
   have hb:b=false∧bG L kJ i=true:=by simpa using HRI.out
   obtain ⟨rfl,his⟩:=hb;have hil:i<L.length:=bR his;obtain ⟨m,rfl⟩:∃ m,n=m+1:=⟨n - 1,by have:=HN.out (by trivial);omega⟩;have hfu:=HN.out rfl
   have qW:Hid (O=branch L m i):=hid (by
    rw [← HO.out,aW,pK,ai (by rw [show bG L jg i=false by simpa using Ey.out];decide),ay his])
   clear his
   go_wp2_with fail
   refine c4.mono ?_;intro x w4 h9;obtain ⟨rfl,dV⟩:=h9.went HR3.out;have mJ:=hid (lq.out.trans (dV.2.mono lq.out.size));have HR4:=hid dV.1;clear c4 h9 dV;have cc:=HI.out m rfl i false w4 HR4.out (HT1.out.mv mJ.out (ae _)) hi (fun _=>by omega);rw [aW,← qW.out] at cc
   go_wp2_with fail
   refine cc.mono ?_;rintro x w9 ⟨v,rfl,⟨kx,tx,fx,ex,ax,nx,cx,rfl,hnx,FY⟩,dV⟩;have kF:=hid (mJ.out.trans (dV.2.mono mJ.out.size));have ow:=(af.1 jD.out).1;have jd:w9.heap[w.heap.size]?=_:=(kF.out.block w.heap.size ow (by omega)).trans jD.out;obtain ⟨⟨r0,r1,r2,r3,r4⟩,gz⟩:=aF jd;have g0:=gz 0;have g1:=gz 1;have g2:=gz 2;have g3:=gz 3;have g4:=gz 4;have pQ:=hid jd;have zx:=hid dV.1;have Xg:=hid FY;clear cc dV jd gz FY
   go_wp2_with fail
   have hp:=dS (a':=.string kx) (b':=.string tx) (c':=.int .i64 fx) (d':=.int .i64 ex) (e':=.slice ax nx cx) pQ.out;refine aB (v:=.agg #[.string kx,.string tx,.int .i64 fx,.int .i64 ex,.slice ax nx cx]) (aQ rfl _ _ w.heap.size 49 #[.string kx,.string tx,.int .i64 fx,.int .i64 ex,.slice ax nx cx] (0,0) _ (by rfl) hp Tryz.underlying49 rfl (by kernel_rfl)) rfl ?_;rw [← HQ.out];refine dO hd (dP.out.trans (kF.out.mono dP.out.size)) zx.out rfl rfl ?_ ⟨ae _,ae _⟩;have hsz:=dP.out.size;have hsz2:=mJ.out.size
   exact ⟨_,_,_,_,_,_,_,rfl,hnx,fun p j fQ=>⟨(Xg.out p j fQ).1,(Xg.out p j fQ).2.later (fun _ _ _=>rfl) (fun g hg=>by omega)⟩⟩
 ·skip
  have hb:b=false∧bG L jg i=true:=by simpa using Ey.out
  obtain ⟨rfl,his⟩:=hb;have hil:i<L.length:=bR his;obtain ⟨m,rfl⟩:∃ m,n=m+1:=⟨n - 1,by have:=HN.out (by trivial);omega⟩;have hfu:=HN.out rfl
  have qW:Hid (O=iX L m i):=hid (by
   rw [← HO.out,aW,pK,ay his])
  clear his
  go_wp2_with fail
  refine c3.mono ?_;intro x w3 h9;obtain ⟨rfl,dV⟩:=h9.went HR2.out;have lq:=hid (kG.out.trans (dV.2.mono kG.out.size));have HR3:=hid dV.1;clear c3 h9 dV;have cc:=zt d L lv hL m i false w3 HR3.out (HT1.out.mv lq.out (ae _)) hi (fun _=>by omega);rw [aW,← qW.out] at cc
  go_wp2_with fail
  refine cc.mono ?_;rintro x w9 ⟨v,rfl,⟨kx,tx,fx,ex,ax,nx,cx,rfl,hnx,FY⟩,dV⟩;have kF:=hid (lq.out.trans (dV.2.mono lq.out.size));have ow:=(af.1 jD.out).1;have jd:w9.heap[w.heap.size]?=_:=(kF.out.block w.heap.size ow (by omega)).trans jD.out;obtain ⟨⟨r0,r1,r2,r3,r4⟩,gz⟩:=aF jd;have g0:=gz 0;have g1:=gz 1;have g2:=gz 2;have g3:=gz 3;have g4:=gz 4;have pQ:=hid jd;have zx:=hid dV.1;have Xg:=hid FY;clear cc dV jd gz FY
  go_wp2_with fail
  have hp:=dS (a':=.string kx) (b':=.string tx) (c':=.int .i64 fx) (d':=.int .i64 ex) (e':=.slice ax nx cx) pQ.out;refine aB (v:=.agg #[.string kx,.string tx,.int .i64 fx,.int .i64 ex,.slice ax nx cx]) (aQ rfl _ _ w.heap.size 49 #[.string kx,.string tx,.int .i64 fx,.int .i64 ex,.slice ax nx cx] (0,0) _ (by rfl) hp Tryz.underlying49 rfl (by kernel_rfl)) rfl ?_;rw [← HQ.out];refine dO hd (dP.out.trans (kF.out.mono dP.out.size)) zx.out rfl rfl ?_ ⟨ae _,ae _⟩;have hsz:=dP.out.size;have hsz2:=lq.out.size
  exact ⟨_,_,_,_,_,_,_,rfl,hnx,fun p j fQ=>⟨(Xg.out p j fQ).1,(Xg.out p j fQ).2.later (fun _ _ _=>rfl) (fun g hg=>by omega)⟩⟩
theorem Mh (d:Nat) (L:List aZ) (lv:Value) (hL:L.length≤1000000) (n:Nat):wX d L lv n∧zF d L lv n∧Md d L lv n:=by
 induction n using Nat.strongRecOn with
 | _ n ih =>
  have hB:wX d L lv n:=Me d L lv hL n (fun m hm=>(ih m hm).2.2);refine ⟨hB,Ke d L lv hL n (fun m hm=>?_) (fun m hm=>(ih m (by omega)).2.1),PH d L lv hL n (fun m hm=>(ih m (by omega)).1) (fun m hm=>(ih m (by omega)).2.1)⟩
  by_cases h:m<n
  ·exact (ih m h).1
  ·obtain rfl:m=n:=by omega
   exact hB
theorem FZ (d:Nat) (L:List aZ) (lv:Value) (hL:L.length≤1000000) (n:Nat):wX d L lv n:=(Mh d L lv hL n).1
theorem wG (L:List aZ) (M n i:Nat) (acc:List Pt):fields L M (n+1) i acc=if bG L [125] i then .ok acc i
  else (param L M jh i).next fun p j=>if bE L j=0∧bG L [125] j=false then .bad j else fields L M n (j+bE L j) (acc++[p]):=rfl
theorem ym (L:List aZ) (M:Nat):∀ (n i:Nat) (acc:List Pt),i≤L.length→Fw L i (fields L M n i acc)
 | 0,i,acc,hi=>⟨ae _,hi⟩
 | n+1,i,acc,hi=>by
  rw [wG]
  split
  ·exact .ok (ae _) hi _
  ·refine ((wU M jh hi).next fun p j _ _ hj=>?_).toFw
   split
   ·exact ⟨ae _,hj⟩
   ·exact (ym L M n _ _ (kW L hj)).mono (Nat.le_add_right _ _)
def Out.Kq:Out By→By
 | .ok s _=>s
 | .bad _=>[]
theorem TG {o:Out By} (h:o.aA=false):∃ j,o=.ok o.Kq j:=by
 cases o with
 | ok s j=>exact ⟨j,rfl⟩
 | bad j=>cases h
theorem Mi (d:Nat) (L:List aZ) (lv:Value) (hL:L.length≤1000000) (n i:Nat) (b:Bool) (w:World) (hR:Rd d lv i b w) (hT:Tk d L lv w) (hi:i≤L.length) (hn:b=false→8*(L.length - i)+5≤n) :
  Calls Tryz.prog 43 #[.pointer (some ⟨d,0,none⟩)] w (Reads d lv (start b i (record L n i)) w):=by
 obtain ⟨O,hO⟩:∃ O,start b i (record L n i)=O:=⟨_,rfl⟩;have HO:=hid hO;rw [hO];clear hO;have hd:=hR.lt;obtain ⟨W1,hW1⟩:∃ W1,w.alloc gB=W1:=⟨_,rfl⟩
 have hb1:Below w.heap.size w W1:=by rw [← hW1];exact (aj _ w).alloc (ae _) _
 have dP:=hid (Mv.of_below (d:=d) hb1)
 have hq1:W1.heap[w.heap.size]?=some (.cells #[.string ⟨#[]⟩,.string ⟨#[]⟩,.int .i64 0,.int .i64 0,.slice none 0 0] 49 (0,0)):=by rw [← hW1];exact aG w _
 have lL:Rd d lv i b W1:=hR.below hb1;have hT1:=hT.mv (Mv.of_below hb1) (ae _);have c1:=mZ d L lv i b W1 lL hT1;obtain ⟨fr,hfr⟩:∃ fr,bQ L i=fr:=⟨_,rfl⟩;rw [hfr] at c1;have Aq:=hid hfr;have HW1:=hid hW1;have jD:=hid hq1;have HR1:=hid lL;have HT1:=hid hT1;have HT0:=hid hT;have HN:=hid hn;obtain ⟨Q,hQ⟩:∃ Q,Reads d lv O w=Q:=⟨_,rfl⟩;have HQ:=hid hQ;rw [hQ];clear hW1 hq1 hb1 lL hT1 hfr hn hQ hR hT
 go_enter Tryz.func43,Tryz.ntmps43
 go_wp2_with fail
 rw [HW1.out];refine c1.mono ?_;intro x w2 h2;obtain ⟨rfl,hw2⟩:=h2.went HR1.out;have kG:=hid hw2.2;have HR2:=hid hw2.1;clear c1 h2 hw2;obtain ⟨om,mE⟩:∃ u,start b i (bI L gY i)=u:=⟨_,rfl⟩;obtain ⟨nm,hnm⟩:∃ u,start om.aA om.at (gK L om.at)=u:=⟨_,rfl⟩;obtain ⟨os,hos⟩:∃ u,start nm.aA nm.at (bI L jZ nm.at)=u:=⟨_,rfl⟩;obtain ⟨ox,hox⟩:∃ u,start os.aA os.at (bI L [123] os.at)=u:=⟨_,rfl⟩;obtain ⟨zD,wF⟩:∃ u,ox.at+(if ox.aA then 0 else bE L ox.at)=u:=⟨_,rfl⟩;obtain ⟨OL,Bj⟩:∃ u,start ox.aA zD (fields L n n zD [])=u:=⟨_,rfl⟩;obtain ⟨sv,hsv⟩:∃ u,xy nm=u:=⟨_,rfl⟩;have sJ:Hid (oZ L i b (start b i (Out.ok () i:Out Unit))):=hid (.begun hi ⟨ae _,hi⟩);have qj:Hid (oZ L i b om):=hid (by rw [← mE];exact .begun hi (bU _ hi).toFw);have rQ:Hid (oZ L i b nm):=hid (by rw [← hnm];exact qj.out.step (jw qj.out.le).toFw);have Wm:Hid (oZ L i b os):=hid (by rw [← hos];exact rQ.out.step (bU _ rQ.out.le).toFw);have BB:Hid (oZ L i b ox):=hid (by rw [← hox];exact Wm.out.step (bU _ Wm.out.le).toFw)
 have acy:Hid (ox.aA=false→1≤ox.at∧b=false):=hid (fun h=>by
  refine ⟨?_,BB.out.so h⟩;rw [← hox] at h ⊢;obtain ⟨h1,h2⟩:=jq h;rw [h2] at h ⊢;have:=(bU [123] Wm.out.le).gt h
  omega)
 have TD:Hid (zD≤L.length∧ox.at≤zD):=hid (by
  have h1:=BB.out.le
  cases hb:ox.aA
  ·rw [hb,ai (by decide)] at wF
   have:=kW L h1
   omega
  ·rw [hb,ay rfl] at wF
   omega)
 have BD:Hid (OL.at≤L.length):=hid (by
  rw [← Bj]
  cases ox.aA
  ·exact (ym L n n zD [] TD.out.1).le
  ·exact TD.out.1)
 obtain ⟨Mf,D6⟩:∃ u,start OL.aA OL.at (bI L [125] OL.at)=u:=⟨_,rfl⟩
 have Zh:Hid (Mf.at≤L.length):=hid (by
  rw [← D6]
  cases OL.aA
  ·exact (bU _ BD.out).le
  ·exact BD.out)
 have nM:Hid (O=OL.next fun l k=>(bI L [125] k).next fun _ q=>part L gY nm.Kq fr l q):=hid (by
  rw [← HO.out,← Bj,← Aq.out]
  have h0:start b i (record L n i)=om.next fun _ j=>(gK L j).next fun s k=>(bI L jZ k).next fun _ m=>(bI L [123] m).next fun _ o=>(fields L n n (o+bE L o) []).next fun l q=>(bI L [125] q).next fun _ r=>part L gY s (bQ L i) l r:=by
   rw [← mE,← uF];rfl
  rw [h0]
  cases om with
  | bad j=>subst hnm;subst hos;subst hox;subst wF;rfl
  | ok u j =>
   have hnm:gK L j=nm:=hnm
   show ((gK L j).next _)=_
   rw [hnm]
   cases nm with
   | bad j=>subst hos;subst hox;subst wF;rfl
   | ok s k =>
    have hos:bI L jZ k=os:=hos
    show ((bI L jZ k).next _)=_
    rw [hos]
    cases os with
    | bad j=>subst hox;subst wF;rfl
    | ok u k2 =>
     have hox:bI L [123] k2=ox:=hox
     show ((bI L [123] k2).next _)=_
     rw [hox]
     cases ox with
     | bad j=>subst wF;rfl
     | ok u k3=>subst wF;rfl)
 have HNM:Hid (OL.aA=false→nm.aA=false):=hid (fun h=>by
  rw [← Bj] at h;have h:=(jq h).1;rw [← hox] at h;have h:=(jq h).1;rw [← hos] at h
  exact (jq h).1)
 have HAT:Hid (O.at=Mf.at∧O.aA=Mf.aA):=hid (by rw [nM.out];exact FP D6)
 have zC:Hid (∀ p j,O=.ok p j→∃ K T ks j',p=.mk K T fr (jY L Mf.at) ks∧aU K=⟨#[116,121,112,101]⟩∧aU T=sv∧OL=.ok ks j'):=hid (by
  intro p j fQ;rw [nM.out] at fQ;obtain ⟨ks,j',h1,h2⟩:=zw D6 fQ;refine ⟨_,_,ks,j',h1,rfl,?_,h2⟩;obtain ⟨j2,h3⟩:=TG (HNM.out (by rw [h2];rfl));rw [← hsv]
  rw [h3];rfl)
 obtain ⟨iP,hi0,hz0,hz1,hz2⟩:=nQ Ay;have Hq:=hid mE;have TV:=hid hnm;have Tf:=hid hsv;have Hos:=hid hos;have Hox:=hid hox;have Zi:=hid wF;have Zb:=hid Bj;have Zj:=hid D6;clear mE hnm hsv hos hox wF Bj D6;have c3:=jf d L lv i b gY w2 HR2.out (HT1.out.mv kG.out (ae _)) (by have:=sJ.out.le;omega);rw [Hq.out,show aU gY=⟨#[116,121,112,101]⟩ from rfl] at c3
 go_wp2_with fail
 refine c3.mono ?_;rintro x w3 ⟨rfl,hw3⟩;have lq:=hid (kG.out.trans (hw3.2.mono kG.out.size));have HR3:=hid hw3.1
 skip
 clear c3 hw3;have c4:=nH d L lv om.at om.aA w3 HR3.out (HT1.out.mv lq.out (ae _)) (by have:=qj.out.le;omega);rw [TV.out,Tf.out] at c4
 go_wp2_with fail
 refine c4.mono ?_;rintro x w4 ⟨rfl,hw4⟩;have mJ:=hid (lq.out.trans (hw4.2.mono lq.out.size));have HR4:=hid hw4.1
 skip
 clear c4 hw4;have c5:=jf d L lv nm.at nm.aA jZ w4 HR4.out (HT1.out.mv mJ.out (ae _)) (by have:=rQ.out.le;omega);rw [Hos.out,show aU jZ=⟨#[115,116,114,117,99,116]⟩ from rfl] at c5
 go_wp2_with fail
 refine c5.mono ?_;rintro x w5 ⟨rfl,jA⟩;have mK:=hid (mJ.out.trans (jA.2.mono mJ.out.size));have uV:=hid jA.1
 skip
 clear c5 jA;have c6:=jf d L lv os.at os.aA [123] w5 uV.out (HT1.out.mv mK.out (ae _)) (by have:=Wm.out.le;omega);rw [Hox.out,show aU [123]=⟨#[123]⟩ from rfl] at c6
 go_wp2_with fail
 refine c6.mono ?_;rintro x w6 ⟨rfl,xe⟩;have nW:=hid (mK.out.trans (xe.2.mono mK.out.size));have Ad:=hid xe.1
 skip
 clear c6 xe;have c7:=nP d L lv ox.at ox.aA w6 Ad.out (HT1.out.mv nW.out (ae _)) BB.out.le hL;rw [Zi.out] at c7;obtain ⟨RS7,acz⟩:∃ R,decide (0<(if ox.aA then 0 else bE L ox.at))=R:=⟨_,rfl⟩;rw [acz] at c7;clear acz
 go_wp2_with fail
 refine c7.mono ?_;rintro x w7 ⟨rfl,hw7⟩;have iN:=hid (nW.out.trans (hw7.2.mono nW.out.size));have sw:=hid hw7.1;clear c7 hw7
 have DZ:Hid (jP d L lv W1 OL (fun m j l=>fields L n m j l) 0 n false (start ox.aA zD (.ok [] zD)) (.slice none 0 0) 0 [] n w7):=hid (by
  have h1:(start ox.aA zD (.ok [] zD:Out (List Pt))).at=zD:=by cases ox.aA <;> rfl
  have h2:(start ox.aA zD (.ok [] zD:Out (List Pt))).aA=ox.aA:=by cases ox.aA <;> rfl
  refine ⟨?_,by rw [h1,h2];exact sw.out,iN.out,(dY.nil _ zD _).out (fun l j h=>?_),by rw [h1];exact TD.out.1,aL _,?_,fun _ hb=>?_⟩
  ·rw [ai (by decide),← Zb.out]
   cases ox.aA <;> rfl
  ·cases hb:ox.aA
   ·rw [hb] at h
    cases h
    exact ⟨_,rfl⟩
   ·rw [hb] at h
    cases h
  ·rw [h1,h2]
   cases hb:ox.aA
   ·have:=(acy.out hb).1
    have:=TD.out.2;rw [ai (by decide)];omega
   ·rw [ay rfl];omega
  ·rw [h1]
   rw [h2] at hb;obtain ⟨h3,h4⟩:=acy.out hb;have h6:=HN.out h4;have h7:=TD.out.2;have h8:=BB.out.ge
   omega)
 go_wp2_with fail
 go_loopw [5] (fun av wr=>∃ (o:Out (List Pt)) (v:Value) (nn:Nat) (xs:List Value) (mm:Nat),av=v∧Hid (jP d L lv W1 OL (fun m j l=>fields L n m j l) 0 (n) false o v nn xs mm wr)) (fun _ wr=>(L.length+1 - atR d wr)*2+nR d wr)
 case atStart=>exact ⟨_,_,0,[],_,rfl,DZ⟩
 case round =>
  clear DZ;obtain ⟨o,v,nn,xs,mm,rfl,fG⟩:=hrel;obtain ⟨la,lc,Zc⟩:=fG.out.list.form;subst Zc;have ci:=iM d L lv o.at o.aA [125] wr fG.out.rd (HT1.out.mv fG.out.mv (ae _));rw [show aU [125]=⟨#[125]⟩ from rfl] at ci
  cases fw:o.aA
  focus
   rw [fw] at ci;obtain ⟨R4,PE⟩:∃ R,bG L [125] o.at=R:=⟨_,rfl⟩;rw [show (!false&&bG L [125] o.at)=R4 from PE] at ci
   cases R4
   ·have TE:Hid (Rd d lv o.at false wr):=hid (by rw [← fw];exact fG.out.rd)
    have H4:=hid PE
    go_wp2_with (fail)
    refine ci.mono ?_;intro x w4 h4;obtain ⟨rfl,hw4⟩:=h4.went TE.out;have hc2:=hw4.1.c2;have uW:=hid hw4;clear ci h4 hw4 PE;obtain ⟨l,hl⟩:=yf fw;obtain ⟨oa,hoa⟩:∃ u,o.at=u:=⟨_,rfl⟩;rw [hoa] at hl;subst hl;have hfu2:=fG.out.fuel rfl rfl;have hle:oa≤L.length:=fG.out.le;have hcn:nn+1≤oa:=fG.out.cnt;have Zd:8*(L.length - oa)+5≤mm:=hfu2.1;have Ze:mm≤n:=hfu2.2;obtain ⟨m',rfl⟩:∃ m',mm=m'+1:=⟨mm - 1,by omega⟩;obtain ⟨ob,pG⟩:∃ u,start false oa (param L n jh oa)=u:=⟨_,rfl⟩;have sK:Hid (vW L oa ob):=hid (by rw [← pG,aW];exact wU n jh hle)
    have yc:Hid (OL=ob.next fun p j=>if bE L j=0∧bG L [125] j=false then .bad j else fields L n m' (j+bE L j) (l++[p])):=hid (by
     have h:=fG.out.out;rw [ai (by decide)] at h;rw [h,← pG,aW]
     exact (wG L n m' oa l).trans (ai (by rw [show bG L [125] oa=false from H4.out];decide)))
    have Bl:Hid (dY W1.heap.size (.ok l oa) (.slice la nn lc) nn xs w4):=hid (fG.out.list.mv uW.out.2 (by have:=dP.out.size;omega));have pJ:Hid (Mv W1.heap.size d W1 w4):=hid (fG.out.mv.trans (uW.out.2.mono fG.out.mv.size));have BC:Hid (Rd d lv oa false w4):=hid uW.out.1;have Bh:=hid (HT1.out.mv pJ.out (ae _));have yh:Hid (atR d wr=oa):=hid fG.out.rd.at;have Az:Hid (nR d wr=1):=hid fG.out.rd.good;have cb:=FK d L lv hL n jh oa false w4 BC.out Bh.out hle (fun _=>by omega);rw [pG,show aU jh=⟨#[102,105,101,108,100]⟩ from rfl] at cb;have k2:=BC.out.c2;clear pG hfu2 fw hoa
    go_wp2_with fail
    refine cb.mono ?_;rintro x v5 ⟨v,rfl,⟨kb,tb,fb,eb,ab,nb,kS,rfl,hnb,hvb⟩,jA⟩;have D3:dY W1.heap.size (.ok l oa) (.slice la nn lc) nn xs (v5.alloc (.cells #[.string kb,.string tb,.int .i64 fb,.int .i64 eb,.slice ab nb kS] 49)):=(Bl.out.mv jA.2 (by have:=dP.out.size;omega)).mv (Mv.of_below (d:=d) ((aj _ v5).alloc (ae _) _)) (by have:=dP.out.size;omega);have hbx:Below v5.heap.size v5 (v5.alloc (.cells #[.string kb,.string tb,.int .i64 fb,.int .i64 eb,.slice ab nb kS] 49)):=(aj _ v5).alloc (ae _) _
    have hsx:W1.heap.size≤(v5.alloc (.cells #[.string kb,.string tb,.int .i64 fb,.int .i64 eb,.slice ab nb kS] 49)).heap.size:=by have:=jA.2.size;have:=pJ.out.size;have:=hbx.size;omega
    have Hw:=hid hvb;have qA:=hid jA;have yj:=hid D3;have xB:=hid hbx;clear cb hvb jA D3 hbx hnb k2
    go_wp2_with (at_builtin;refine dG _ rfl _ _ 47 rfl W1.heap.size 49 iP _ 5 72 Tryz.underlying47 hi0 hz0 hz1 hz2 rfl (by decide) _ nn xs rfl yj.out.own ⟨v5.heap.size,0,none⟩ 1 1 [.string kb,.string tb,.int .i64 fb,.int .i64 eb,.slice ab nb kS] rfl rfl (qo (aG v5 _)) qm (by unfold maxLen;omega) (by omega) hsx ?_)
    intro v' w7 bY aP _ mf
    have hrow:v'.ownBlock=(Value.slice la nn lc).ownBlock∨v'.ownBlock=some (v5.alloc (.cells #[.string kb,.string tb,.int .i64 fb,.int .i64 eb,.slice ab nb kS] 49)).heap.size:=by simpa using mf
    clear mf
    have Ej:Hid (∀ o':Out (List Pt),(∀ l' j',o'=.ok l' j'→∃ p jp,ob=.ok p jp∧l'=l++[p])→dY W1.heap.size o' v' (nn+1) (xs++[.string kb,.string tb,.int .i64 fb,.int .i64 eb,.slice ab nb kS]) w7):=hid (fun o' ho'=>yj.out.snoc Bl.out (ae _) pJ.out.size Hw.out xB.out bY aP hrow (fun l' j' hl'=>by
     obtain ⟨p,jp,h1,h2⟩:=ho' l' j' hl'
     exact ⟨l,oa,p,jp,rfl,h1,h2⟩))
    have hown1:∀ k,(Value.slice la nn lc).ownBlock=some k→W1.heap.size≤k:=fun k hk=>(yj.out.own.lt k hk).1
    have hd1:d<W1.heap.size:=by have:=dP.out.size;omega
    have sw:Hid (Rd d lv ob.at ob.aA w7):=hid (by
     have h:=qA.out.1.below xB.out
     exact (aP.block d h.lt (fun h'=>by have:=hown1 d h'.symm;omega)).trans h)
    have iN:Hid (Mv W1.heap.size d W1 w7):=hid (pJ.out.trans ((qA.out.2.mono pJ.out.size).trans (((Mv.of_below xB.out).mono (by have:=qA.out.2.size;have:=pJ.out.size;omega)).trans ⟨aP.os,aP.tape,aP.output,aP.size,fun k hk _=>aP.block k (by omega) (fun h'=>by have:=hown1 k h'.symm;omega)⟩)));have c8:=nP d L lv ob.at ob.aA w7 sw.out (HT1.out.mv iN.out (ae _)) sK.out.le hL;obtain ⟨S8,EB⟩:∃ u,(if ob.aA then 0 else bE L ob.at)=u:=⟨_,rfl⟩;rw [EB] at c8;obtain ⟨p8,AA⟩:∃ u,ob.at+S8=u:=⟨_,rfl⟩;rw [AA] at c8
    have AB:Hid (p8≤L.length∧oa≤p8∧(ob.aA=false→oa<p8)∧p8=ob.at+S8):=hid (by
     have h1:=sK.out.ge;have h2:=sK.out.le;refine ⟨?_,by omega,fun h=>by have:=sK.out.gt h;omega,AA.symm⟩
     cases hb:ob.aA
     ·rw [hb,ai (by decide)] at EB
      have:=kW L h2
      omega
     ·rw [hb,ay rfl] at EB
      omega)
    obtain ⟨R9,L8⟩:∃ R,decide (0<S8)=R:=⟨_,rfl⟩;rw [L8] at c8;have HS8:=hid EB;have H9:=hid L8
    have HGO:Hid (ob.aA=false→(0<S8∨bG L [125] p8=true)→OL=(Out.ok (l++[ob.pt]) p8).next fun acc k=>fields L n m' k acc):=hid (fun hb h=>by
     rw [yc.out];rw [hb,ai (by decide)] at EB;have h1:=jG hb;rw [h1];have e1:(Out.ok ob.pt ob.at).at=ob.at:=rfl;have e2:(Out.ok ob.pt ob.at).pt=ob.pt:=rfl
     show (if bE L ob.at=0∧bG L [125] ob.at=false then _ else _)=_
     rw [ai (fun hh=>by
      rcases h with h|h
      ·omega
      ·rw [← AA,← EB,hh.1,bS,hh.2] at h;cases h),EB,AA]
     rfl)
    have Zk:Hid (¬ 0<S8→(!ob.aA&&bG L [125] p8)=false→OL=.bad p8):=hid (fun h1 h2=>by
     rw [yc.out]
     have h0:S8=0:=by omega
     rw [h0,bS] at AA
     cases ob with
     | bad j =>
      have AA:j=p8:=AA;rw [← AA];rfl
     | ok a j =>
      have AA:j=p8:=AA;have EB:bE L j=S8:=EB
      have h2:bG L [125] p8=false:=by simpa [Out.aA] using h2
      show (if bE L j=0∧bG L [125] j=false then _ else _)=_
      rw [ay ⟨by omega,by rw [AA];exact h2⟩,AA])
    have Ir:Hid (ob.aA=false→dY W1.heap.size (Out.ok (l++[ob.pt]) p8) v' (nn+1) (xs++[.string kb,.string tb,.int .i64 fb,.int .i64 eb,.slice ab nb kS]) w7):=hid (fun hb=>Ej.out _ (fun l' j' hl'=>by
     cases hl'
     exact ⟨ob.pt,ob.at,jG hb,rfl⟩))
    have HL9:Hid (dY W1.heap.size (Out.bad p8) v' (nn+1) (xs++[.string kb,.string tb,.int .i64 fb,.int .i64 eb,.slice ab nb kS]) w7):=hid (Ej.out _ (fun l' j' hl'=>by cases hl'));clear bY aP hrow hown1 hd1 L8 hsx EB AA
    cases R9
    ·go_wp2_with fail
     refine c8.mono ?_;rintro x w8 ⟨rfl,hw8⟩;have lF:=hid (iN.out.trans (hw8.2.mono iN.out.size));have Px:=hid hw8;have c9:=iM d L lv p8 ob.aA [125] w8 hw8.1 (HT1.out.mv lF.out (ae _));rw [show aU [125]=⟨#[125]⟩ from rfl] at c9;obtain ⟨RX,Zl⟩:∃ R,(!ob.aA&&bG L [125] p8)=R:=⟨_,rfl⟩;rw [Zl] at c9;have HX:=hid Zl;clear c8 hw8 Zl
     cases RX
     ·go_wp2_with fail
      refine c9.mono ?_;intro x w9 h9;obtain ⟨rfl,dV⟩:=h9.went Px.out.1;have kF:=hid (lF.out.trans (dV.2.mono lF.out.size));have k2:=dV.1.c2;have f2:=dV.1.f2;obtain ⟨WE,hWE⟩:∃ W,w9.setCell ⟨d,2,none⟩ (.bool true)=W:=⟨_,rfl⟩
      have Wh:Rd d lv p8 true WE:=by rw [← hWE];exact dV.1.set2 true
      have Zm:Mv w9.heap.size d w9 WE:=by rw [← hWE];exact (Mv.refl _ _ _).setCell 2 _
      have oC:Hid (jP d L lv W1 OL (fun m j l=>fields L n m j l) 0 (n) false (Out.bad p8) v' (nn+1) (xs++[.string kb,.string tb,.int .i64 fb,.int .i64 eb,.slice ab nb kS]) m' WE):=hid ⟨by rw [ai (by decide)];exact Zk.out (by simpa using H9.out) HX.out,Wh,kF.out.trans (Zm.mono kF.out.size),((HL9.out.mv Px.out.2 (by have:=dP.out.size;omega)).mv dV.2 (by have:=dP.out.size;omega)).mv Zm (by have:=dP.out.size;omega),AB.out.1,aL _,by show nn+1+0≤p8;have:=AB.out;omega,fun _ hb=>by cases hb⟩;have sO:Hid (atR d WE=p8∧nR d WE=0):=hid ⟨Wh.at,Wh.good⟩;clear c9 h9 dV Wh Zm
      go_wp2_with fail
      go_roundw
      case rel=>exact ⟨_,_,_,_,m',rfl,oC⟩
      case measure =>
       rw [sO.out.1,sO.out.2,yh.out,Az.out];have h1:=AB.out
       omega
     ·have nV:ob.aA=false∧bG L [125] p8=true:=by simpa using HX.out
      have sP:=hid nV;clear nV
      go_wp2_with fail
      refine c9.mono ?_;intro x w9 h9;obtain ⟨rfl,dV⟩:=h9.went Px.out.1;rw [sP.out.1] at dV;have kF:=hid (lF.out.trans (dV.2.mono lF.out.size));have oC:Hid (jP d L lv W1 OL (fun m j l=>fields L n m j l) 0 (n) false (Out.ok (l++[ob.pt]) p8) v' (nn+1) (xs++[.string kb,.string tb,.int .i64 fb,.int .i64 eb,.slice ab nb kS]) m' w9):=hid ⟨by rw [ai (by decide)];exact HGO.out sP.out.1 (.inr sP.out.2),dV.1,kF.out,((Ir.out sP.out.1).mv Px.out.2 (by have:=dP.out.size;omega)).mv dV.2 (by have:=dP.out.size;omega),AB.out.1,aL _,by show nn+1+1≤p8;have:=AB.out.2.2.1 sP.out.1;omega,fun _ _=>by show 8*(L.length - p8)+5≤m'∧m'≤n;have:=AB.out.2.2.1 sP.out.1;have:=bR sP.out.2;omega⟩;have sO:Hid (atR d w9=p8∧nR d w9=1):=hid ⟨dV.1.at,dV.1.good⟩;clear c9 h9 dV
      go_wp2_with fail
      go_roundw
      case rel=>exact ⟨_,_,_,_,m',rfl,oC⟩
      case measure =>
       rw [sO.out.1,sO.out.2,yh.out,Az.out];have h1:=AB.out.2.2.1 sP.out.1;have h2:=AB.out.1
       omega
    ·have hS:0<S8:=by simpa using H9.out
     have nV:ob.aA=false:=by
      cases hb:ob.aA
      ·rfl
      ·have h:=HS8.out
       rw [hb,ay rfl] at h
       omega
     have sP:=hid nV;have HS:=hid hS;clear nV hS
     go_wp2_with fail
     refine c8.mono ?_;rintro x w8 ⟨rfl,hw8⟩;rw [sP.out] at hw8;have lF:=hid (iN.out.trans (hw8.2.mono iN.out.size));have oC:Hid (jP d L lv W1 OL (fun m j l=>fields L n m j l) 0 (n) false (Out.ok (l++[ob.pt]) p8) v' (nn+1) (xs++[.string kb,.string tb,.int .i64 fb,.int .i64 eb,.slice ab nb kS]) m' w8):=hid ⟨by rw [ai (by decide)];exact HGO.out sP.out (.inl HS.out),hw8.1,lF.out,(Ir.out sP.out).mv hw8.2 (by have:=dP.out.size;omega),AB.out.1,aL _,by show nn+1+1≤p8;have:=AB.out.2.2.1 sP.out;omega,fun _ _=>by show 8*(L.length - p8)+5≤m'∧m'≤n;have:=sK.out.gt sP.out;have:=AB.out;have:=HS.out;omega⟩;have sO:Hid (atR d w8=p8∧nR d w8=1):=hid ⟨hw8.1.at,hw8.1.good⟩;clear c8 hw8
     go_wp2_with fail
     go_roundw
     case rel=>exact ⟨_,_,_,_,m',rfl,oC⟩
     case measure =>
      rw [sO.out.1,sO.out.2,yh.out,Az.out];have h1:=AB.out.2.2.1 sP.out;have h2:=AB.out.1
      omega
   have hox:OL=o:=by
    have h:=fG.out.out;rw [ai (by decide)] at h;obtain ⟨l,hl⟩:=yf fw;have hfu:=(fG.out.fuel rfl fw).1;obtain ⟨m',rfl⟩:∃ m',mm=m'+1:=⟨mm - 1,by omega⟩;rw [h];rw [hl] at PE ⊢
    exact (wG L n m' o.at l).trans (ay PE)
   have TE:Hid (Rd d lv o.at o.aA wr):=hid fG.out.rd
   go_wp2_with fail
   refine ci.mono ?_;intro x w4 h4;obtain ⟨rfl,hw4⟩:=h4.went TE.out;have uW:=hid hw4;clear ci h4 hw4 PE fw
  rotate_left
  focus
   have hox:OL=o:=by
    rw [fG.out.out,ai (by decide)]
    cases o with
    | ok a j=>cases fw
    | bad j=>rfl
   have TE:Hid (Rd d lv o.at o.aA wr):=hid fG.out.rd;rw [show (!o.aA&&bG L [125] o.at)=false by rw [fw];rfl] at ci
   go_wp2_with fail
   refine ci.mono ?_;intro x w4 h4;obtain ⟨rfl,hw4⟩:=h4.went TE.out;have hc2:=hw4.1.c2;rw [fw] at hc2;have uW:=hid hw4;clear ci h4 hw4 fw
  rotate_left
  all_goals
   subst hox;have Zn:=hid (fG.out.mv.trans (uW.out.2.mono fG.out.mv.size));have HLe:=hid (fG.out.list.mv uW.out.2 (by have:=dP.out.size;omega));have HCe:Hid (nn≤1000000):=hid (by have h1:=fG.out.cnt;have h2:=fG.out.le;split at h1 <;> omega);have ce:=jf d L lv OL.at OL.aA [125] w4 uW.out.1 (HT1.out.mv Zn.out (ae _)) (by have:=fG.out.le;omega);rw [Zj.out,show aU [125]=⟨#[125]⟩ from rfl] at ce
   go_wp2_with fail
   refine ce.mono ?_;rintro x we ⟨rfl,Wj⟩;have Zo:=hid (Zn.out.trans (Wj.2.mono Zn.out.size));have HRf:=hid Wj.1;have HLf:=hid (HLe.out.mv Wj.2 (by have:=dP.out.size;omega));clear ce Wj;have cz:=eZ d L lv Mf.at Mf.aA ⟨#[116,121,112,101]⟩ sv fr la nn lc we HRf.out (HT1.out.mv Zo.out (ae _)) Zh.out hL;obtain ⟨ez,jC⟩:∃ u,jY L Mf.at=u:=⟨_,rfl⟩;rw [jC] at cz;have sH:=hid jC;clear jC
   go_wp2_with fail
   refine cz.mono ?_;rintro x wq ⟨rfl,hwq⟩;have Ce:=hid (Zo.out.trans (hwq.2.mono Zo.out.size));have EA:=hid hwq;have ow:=(af.1 jD.out).1;have jd:wq.heap[w.heap.size]?=_:=(Ce.out.block w.heap.size ow (by omega)).trans jD.out;obtain ⟨⟨r0,r1,r2,r3,r4⟩,gz⟩:=aF jd;have g0:=gz 0;have g1:=gz 1;have g2:=gz 2;have g3:=gz 3;have g4:=gz 4;have pQ:=hid jd;clear cz hwq jd gz
   go_wp2_with fail
   have hp:=dS (a':=.string ⟨#[116,121,112,101]⟩) (b':=.string sv) (c':=.int .i64 fr) (d':=.int .i64 ez) (e':=.slice la nn lc) pQ.out;refine aB (v:=.agg #[.string ⟨#[116,121,112,101]⟩,.string sv,.int .i64 fr,.int .i64 ez,.slice la nn lc]) (aQ rfl _ _ w.heap.size 49 #[.string ⟨#[116,121,112,101]⟩,.string sv,.int .i64 fr,.int .i64 ez,.slice la nn lc] (0,0) _ (by rfl) hp Tryz.underlying49 rfl (by kernel_rfl)) rfl ?_;rw [← HQ.out];refine dO hd (dP.out.trans (Ce.out.mono dP.out.size)) EA.out.1 HAT.out.1 HAT.out.2 ?_ ⟨ae _,ae _⟩;refine nI (HLf.out.mv EA.out.2 (by omega)) (fun g hg=>by omega) (HCe.out) (fun p j fQ=>?_);rw [← sH.out]
   exact zC.out p j fQ
end T
end Go.Proofs.YtojoahlpgmnbnaaGreatDoor
