/- What the claim needs of the texts TDecl, TDecl2. -/
import Derived.Test.YtojoahlpgmnbnaaGreatDoorUWOp
import Derived.Test.YtojoahlpgmnbnaaGreatDoorUW25
import Derived.Test.YtojoahlpgmnbnaaGreatDoorUW12
import Derived.Test.YtojoahlpgmnbnaaGreatDoorUW16
set_option maxRecDepth 20000
set_option maxHeartbeats 16000000
namespace Go.Proofs.YtojoahlpgmnbnaaGreatDoor
namespace T
open Go.RowKit
open Go.Lib hiding intOf
open U S L
open K (pg kS tok xA)
theorem um {L:List bn} {size j:Nat} (h:decl L (8*L.length+10)=.bad j):kS L size=(K.gu,(tok L size j).f,101):=by
 unfold kS pg
 rw [h]
theorem uU {L:List bn} {size i:Nat} {p:Pt} (h:decl L (8*L.length+10)=.ok p i) (hi:i+bE L i<L.length):kS L size=(K.gu,(tok L size (i+bE L i)).f,101):=by
 unfold kS pg
 rw [h]
 show (match (if i+bE L i<L.length then xA.bad (i+bE L i) else xA.part p) with|.bad j=>_|.part p=>_)=_
 rw [au hi]
theorem zQ {L:List bn} {size i:Nat} {p:Pt} (h:decl L (8*L.length+10)=.ok p i) (hi:¬ i+bE L i<L.length):kS L size=if 40<deep p then (K.gu,0,22) else (p,0,0):=by
 unfold kS pg
 rw [h]
 show (match (if i+bE L i<L.length then xA.bad (i+bE L i) else xA.part p) with|.bad j=>_|.part p=>_)=_
 rw [ai hi]
theorem Cx {L:List bn} {i:Nat} {p:Pt} (h:decl L (8*L.length+10)=.ok p i) (hi:¬ i+bE L i<L.length):pg L=.part p:=by
 unfold pg
 rw [h]
 exact ai hi
theorem mM {L:List bn} {size j:Nat} (h:j<L.length):(tok L size j).f=L[j].f:=by
 unfold K.tok
 rw [aB h];rfl
theorem qL {L:List bn} {size j:Nat} (h:¬ j<L.length):(tok L size j).f=size:=by
 unfold K.tok
 rw [di (by omega)];rfl
end T
namespace T
open Go.RowKit
open Go.Lib hiding intOf
open U S L
open K (kS rP xn)
open J (qo sM arg eD dE)
theorem TZ (L:List bn) (n i:Nat) (hi:i≤L.length):wI L i (si L n i):=by
 unfold si
 refine (bU _ hi).next fun _ j _ _ hj=>((jo hj).next fun s k _ _ hk=>((bU _ hk).next fun _ m _ _ hm=>?_).toFw).toFw
 refine Fw.next (i:=m) ?_ fun ps o _ _ ho=>Fw.next (i:=o) ?_ fun rs q _ _ hq=>(((nG L n).block q hq).next fun b r _ _ hr=>iG _ _ _ _ hr).toFw
 ·split
  ·rename_i h
   exact .ok (dY _) (bR h) _
  ·exact yH L n n _ _ hm
 ·split
  ·exact .ok (ae _) ho _
  ·exact ((jq n _ ho).next fun x q _ _ hq=>Fw.ok (ae _) hq _).toFw
theorem MJ (L:List bn) (n i:Nat) (hi:i≤L.length):wI L i (record L n i):=by
 unfold record
 exact (bU _ hi).next fun _ j _ _ hj=>((jo hj).next fun s k _ _ hk=>((bU _ hk).next fun _ m _ _ hm=>((bU _ hm).next fun _ o _ _ ho=>((yG L n n _ [] (kW L ho)).mono (Nat.le_add_right _ _)).next fun l q _ _ hq=>((bU _ hq).next fun _ r _ _ hr=>iG _ _ _ _ hr).toFw).toFw).toFw).toFw
theorem iw {B:Nat} {a w:World} (h:Below B a w) (n:Nat):Below B a (w.drewN n):=⟨h.os,h.tape,h.output,h.size,h.block⟩
theorem Ku (s:ByteArray) (w:World) (hs:s.size≤600):Calls Tryz.prog 26 #[.string s] w (xn s w):=by
 have hsl:s.toList.length=s.size:=by rw [bg];simp
 have hwt:=fun p (h:K.pg (fD (okB s) s.toList)=.part p)=>K.Cj (by omega) h
 have hll:=K.FB (okB s) s.toList
 have cS:=fun X=>Bt s X (by omega)
 obtain ⟨L,hL0⟩:∃ L,fD (okB s) s.toList=L:=⟨_,rfl⟩;rw [hL0] at hll hwt cS;obtain ⟨sz,hsz⟩:∃ z,s.size=z:=⟨_,rfl⟩
 have hL1:L.length≤1000:=by omega
 have ZX:L.length≤1000000:=by omega
 have HFin:Hid (∀ (p:Pt) (at' er:Int) (qF:Value) (W:World),kS L sz=(p,at',er)→aU W (fun g=>w.heap.size≤g) p qF→Below w.heap.size w W→sM p≤100000000→xn s w (.returned (.tuple #[arg p qF,.int .i64 at',.int .i64 er])) W):=hid (fun p at' er qF W h1 h2 h3 h4=>⟨p,at',er,qF,by rw [hL0,hsz];exact h1,rfl,h2,h3,h4⟩);obtain ⟨op,hop⟩:∃ u,decl L (8*L.length+10)=u:=⟨_,rfl⟩;have El:=hid hop;have HWt:=hid hwt;have HSZ:=hid hsz;obtain ⟨P,hP⟩:∃ P,xn s w=P:=⟨_,rfl⟩;rw [hP] at HFin ⊢;have HCS:=hid cS;obtain ⟨W1,hW1⟩:∃ X,w.alloc gu=X:=⟨_,rfl⟩
 have hb1:Below w.heap.size w W1:=by rw [← hW1];exact (ah _ w).alloc (ae _) _
 have jC:Hid (W1.heap[w.heap.size]?=some (.cells #[.string ⟨#[]⟩,.string ⟨#[]⟩,.int .i64 0,.int .i64 0,.slice none 0 0] 49 (0,0))):=hid (by rw [← hW1];exact aG w _);have HB1:=hid hb1;have HW1:=hid hW1;clear hop hwt hsz hsl hll cS hP hb1 hW1 hL0
 go_enter Tryz.func26,Tryz.ntmps26
 go_upto_region 1 with fail
 try rw [HW1.out]
 have c1:=HCS.out W1
 go_wp2_with fail
 refine c1.mono ?_;rintro e w2 ⟨v,rfl,⟨a,cap,rfl,hcap,hrow⟩,hb2⟩;obtain ⟨lv,hlv⟩:∃ u,Value.slice a L.length cap=u:=⟨_,rfl⟩;have PU:=hid hlv;have HB2:=hid (HB1.out.trans (hb2.mono HB1.out.size));have BN:=hid ((hb2.block _ (af.1 jC.out).1).trans jC.out);have acW:Hid (∀ d,w2.heap.size≤d→Tk d L lv w2):=hid (fun d hd=>⟨a,cap,hlv.symm,hrow.imp id (fun ⟨g,off,h1,h2,h3,h4⟩=>⟨g,off,h1,by omega,h3,h4⟩)⟩);have HTK:Hid (∀ (d:Nat) (X:World),w2.heap.size≤d→(∀ k,k<w2.heap.size→X.heap[k]?=w2.heap[k]?)→w2.heap.size≤X.heap.size→Tk d L lv X):=hid (fun d X hd hX hz=>⟨a,cap,hlv.symm,hrow.imp id (fun ⟨g,off,h1,h2,h3,h4⟩=>⟨g,off,h1,by omega,by omega,fun j u hj=>by rw [il (hX g h3)];exact h4 j u hj⟩)⟩);clear c1 hb2 hrow hlv
 go_upto_region 2 with fail
 obtain ⟨d,hd⟩:∃ d,w2.heap.size=d:=⟨_,rfl⟩;obtain ⟨W3,hW3⟩:∃ X,w2.alloc (.cells #[.slice a L.length cap,.int .i64 0,.bool false] 82)=X:=⟨_,rfl⟩
 have hb3:Below w2.heap.size w2 W3:=by rw [← hW3];exact (ah _ w2).alloc (ae _) _
 have Eu:Rd d lv 0 false W3:=by rw [← PU.out,← hW3,← hd];exact aG w2 _
 try rw [hW3]
 try rw [hd]
 have HZ3:Hid (w2.heap.size=d∧d<W3.heap.size):=hid ⟨hd,Eu.lt⟩;have HR3:=hid Eu;have HB3:=hid hb3;clear hW3 hd hb3 Eu
 go_upto_region 4 with fail
 obtain ⟨q,hq⟩:∃ q,W3.heap.size=q:=⟨_,rfl⟩;obtain ⟨W4,Oc⟩:∃ X,W3.alloc gu=X:=⟨_,rfl⟩
 have hb4:Below W3.heap.size W3 W4:=by rw [← Oc];exact (ah _ W3).alloc (ae _) _
 have hq4:W4.heap[q]?=some (.cells #[.string ⟨#[]⟩,.string ⟨#[]⟩,.int .i64 0,.int .i64 0,.slice none 0 0] 49 (0,0)):=by rw [← Oc,← hq];exact aG W3 _
 try rw [Oc]
 try rw [hq]
 have HQP:=hid hq4;have kH:Hid (w.heap.size<d∧d<q∧q<W4.heap.size):=hid ⟨by have h1:=(af.1 BN.out).1;have h2:=HZ3.out;omega,by have:=HZ3.out;omega,(af.1 hq4).1⟩;have HR4:=hid (HR3.out.below hb4);have vw:Hid (Below w2.heap.size w2 W4):=hid (HB3.out.trans (hb4.mono HB3.out.size));have HT4:Hid (Tk d L lv W4):=hid ((acW.out d (by have:=HZ3.out;omega)).mv (Mv.of_below vw.out) (ae _));have JO:Hid (W4.heap[w.heap.size]?=_):=hid ((vw.out.block _ (af.1 BN.out).1).trans BN.out);have HBW:Hid (Below w.heap.size w W4):=hid (HB2.out.trans (vw.out.mono HB2.out.size));clear Oc hq hb4 hq4 HR3 HB3 acW jC BN HB1 HCS HW1;have mO:Hid (Mv W4.heap.size d W4 W4):=hid (Mv.refl _ _ _);have c5:=iJ d L lv 0 false eY W4 HR4.out (HT4.out.mv mO.out (ae _));rw [show aX eY=⟨#[102,117,110,99]⟩ from rfl] at c5;obtain ⟨R1,lK⟩:∃ R,bH L eY 0=R:=⟨_,rfl⟩;rw [show (!false&&bH L eY 0)=R1 from lK] at c5;have HR1:=hid lK;clear lK
 cases R1
 focus
  skip
  go_wp2_with fail
  refine c5.mono ?_;intro x w5 h9;obtain ⟨rfl,dU⟩:=h9.went HR4.out;have mU:=hid (mO.out.trans (dU.2.mono mO.out.size));have vD:=hid dU.1;clear c5 h9 dU;have c6:=iJ d L lv 0 false jd w5 vD.out (HT4.out.mv mU.out (ae _));rw [show aX jd=⟨#[118,97,114]⟩ from rfl] at c6;obtain ⟨R2,hR2⟩:∃ R,bH L jd 0=R:=⟨_,rfl⟩;rw [show (!false&&bH L jd 0)=R2 from hR2] at c6;have HR2:=hid hR2;clear hR2
  cases R2
  focus
   skip
   go_wp2_with fail
   refine c6.mono ?_;intro x w6 h9;obtain ⟨rfl,dU⟩:=h9.went vD.out;have oq:=hid (mU.out.trans (dU.2.mono mU.out.size));have Ao:=hid dU.1;clear c6 h9 dU;have c7:=iJ d L lv 0 false gU w6 Ao.out (HT4.out.mv oq.out (ae _));rw [show aX gU=⟨#[116,121,112,101]⟩ from rfl] at c7;obtain ⟨R3,Eu⟩:∃ R,bH L gU 0=R:=⟨_,rfl⟩;rw [show (!false&&bH L gU 0)=R3 from Eu] at c7;have HR3:=hid Eu;clear Eu
   cases R3
   focus
    skip
    have Qk:Hid (op=.bad 0):=hid (by
     rw [← El.out]
     unfold decl
     rw [ai (by rw [HR1.out];decide),ai (by rw [HR2.out];decide),ai (by rw [HR3.out];decide)])
    go_wp2_with fail
    refine c7.mono ?_;intro x w7 h9;obtain ⟨rfl,dU⟩:=h9.went Ao.out;have iK:=hid (oq.out.trans (dU.2.mono oq.out.size));have sH:=hid dU.1;clear c7 h9 dU;have Qb:Hid (op.at≤L.length):=hid (by rw [Qk.out];exact aM _);have k2:=sH.out.c2;have f2:=sH.out.f2;obtain ⟨WT,BG⟩:∃ W,w7.setCell ⟨d,2,none⟩ (.bool true)=W:=⟨_,rfl⟩
    have oM:∀ g,g≠d→WT.heap[g]?=w7.heap[g]?:=fun g hg=>by rw [← BG];exact aj _ _ _ _ hg
    have hTs:WT.heap.size=w7.heap.size:=by rw [← BG];simp
    have PN:Hid (WT.heap[q]?=some (.cells #[.string ⟨#[]⟩,.string ⟨#[]⟩,.int .i64 0,.int .i64 0,.slice none 0 0] 49 (0,0))):=hid ((oM q (by have:=kH.out;omega)).trans ((iK.out.block q kH.out.2.2 (by have:=kH.out;omega)).trans HQP.out));have ZY:Hid (Rd d lv op.at op.az WT):=hid (by rw [Qk.out,← BG];exact sH.out.set2 true);have IB:Hid (Mv q d W4 WT):=hid ((iK.out.mono (by have:=kH.out;omega)).trans ⟨by rw [← BG];rfl,by rw [← BG];rfl,by rw [← BG];rfl,by omega,fun k hk hd=>oM k hd⟩);have Nq:Hid (Tk d L lv WT):=hid (HTK.out d WT (by have:=HZ3.out;omega) (fun k hk=>(IB.out.block k (by have:=kH.out;have:=HZ3.out;omega) (by have:=HZ3.out;omega)).trans (vw.out.block k hk)) (aJ vw.out.size IB.out.size));have EC:Hid (∀ p j,op=.ok p j→(.agg #[.string ⟨#[]⟩,.string ⟨#[]⟩,.int .i64 0,.int .i64 0,.slice none 0 0]:Value)=.agg (five p (.slice none 0 0)).toArray∧aU WT (fun g=>q<g) p (.slice none 0 0)):=hid (fun p j h=>by rw [Qk.out] at h;cases h);clear oM hTs
    go_upto_region 10 with fail
    try rw [BG]
    clear k2 f2 BG;have cse:=nX d L lv op.at op.az WT ZY.out Nq.out Qb.out ZX;obtain ⟨k0,hk0⟩:∃ u,op.at+(if op.az then 0 else bE L op.at)=u:=⟨_,rfl⟩;rw [hk0] at cse;obtain ⟨RS,T3⟩:∃ R,decide (0<(if op.az then 0 else bE L op.at))=R:=⟨_,rfl⟩;rw [T3] at cse;have Jc:=hid hk0;clear T3 hk0
    go_wp2_with fail
    refine cse.mono ?_;rintro x w8 ⟨rfl,hw8⟩;have Qj:q<WT.heap.size:=(af.1 PN.out).1;have yI:w8.heap[q]?=_:=(hw8.2.block q Qj (by have:=kH.out;omega)).trans PN.out;have yJ:w8.heap[w.heap.size]?=some (.cells #[.string ⟨#[]⟩,.string ⟨#[]⟩,.int .i64 0,.int .i64 0,.slice none 0 0] 49 (0,0)):=(hw8.2.block _ (by have:=kH.out;omega) (by have:=kH.out;omega)).trans ((IB.out.block _ (by have:=kH.out;omega) (by have:=kH.out;omega)).trans JO.out);have qT:Hid (Below w.heap.size w w8):=hid ((HBW.out.trans ((IB.out.mono (by have:=kH.out;omega)).below (by have:=kH.out;omega))).trans ((hw8.2.mono (by have:=kH.out;omega)).below (by have:=kH.out;omega)));have MK:Hid (∀ p j,op=.ok p j→(.agg #[.string ⟨#[]⟩,.string ⟨#[]⟩,.int .i64 0,.int .i64 0,.slice none 0 0]:Value)=.agg (five p (.slice none 0 0)).toArray∧aU w8 (fun g=>q<g) p (.slice none 0 0)):=hid (fun p j h=>⟨(EC.out p j h).1,(EC.out p j h).2.later (fun g hg hgl=>hw8.2.block g hgl (by have:=kH.out;omega)) (fun _ hg=>hg)⟩);have Eo:=hid yI;have xD:=hid yJ;have uq:=hid hw8.1;have ZZ:Hid (Tk d L lv w8):=hid (Nq.out.mv hw8.2 (ae _));obtain ⟨⟨p0,p1,p2,p3,p4⟩,-⟩:=aF yI;obtain ⟨⟨r0,r1,r2,r3,r4⟩,gz⟩:=aF yJ;have g0:=gz 0;have g1:=gz 1;have g2:=gz 2;have g3:=gz 3;have g4:=gz 4;have c0:=uq.out.c0;have c1:=uq.out.c1;have c2:=uq.out.c2;rw [← PU.out] at c0;obtain ⟨ln,hln⟩:∃ u,L.length=u:=⟨_,rfl⟩;rw [hln] at c0;have Uh:=hid hln;have hsz':=HSZ.out;clear cse hw8 yI yJ gz Qj
    by_cases hlt:k0<ln
    ·obtain ⟨g,off,cap2,hlv2,hgd,t0,t1,t2,t3⟩:=lH (i:=k0) ZZ.out (by omega)
     rw [← PU.out] at hlv2
     injection hlv2 with i1 i2 i3
     subst i1;subst i3;have T4:L[k0].f=(K.tok L sz k0).f:=(mM (by omega)).symm;rw [T4] at t2;obtain ⟨ff,Ca⟩:∃ u,(K.tok L sz k0).f=u:=⟨_,rfl⟩;rw [Ca] at t2;have HFF:=hid Ca
     have hii:(k0:Int)<(ln:Int):=by omega
     have PO:(0:Int)≤(k0:Int):=by omega
     have T6:kS L sz=(K.gu,ff,101):=by
      have hk0:=Jc.out;rw [← Ca]
      cases fu:op with
      | bad j =>
       rw [fu] at hk0;have hk0:j=k0:=hk0;rw [← hk0]
       exact um (El.out.trans fu)
      | ok p j =>
       rw [fu] at hk0;have hk0:j+bE L j=k0:=hk0;rw [← hk0]
       exact uU (El.out.trans fu) (by omega)
     have Cm:=hid T6;clear T6 T4 t0 t1 t3 Ca hln hgd
     cases fu:op.az
     all_goals
      rw [fu] at c2;clear fu
      go_upto_region 11 with fail
      go_quiet (fail)
      go_upto_region 13 with fail
      go_quiet (fail)
      go_upto_region 14 with fail
      go_quiet (fail)
      go_wp2_with fail
      generalize hX:World.drewN w8 _=X;obtain ⟨Wf,hWf,f0,pX,BS⟩:=gP (W:=X) (a':=.string ⟨#[]⟩) (b':=.string ⟨#[]⟩) (c':=.int .i64 0) (e':=.int .i64 0) (f':=.slice none 0 0) (by rw [← hX];exact xD.out);rw [hWf];obtain ⟨⟨y0,y1,y2,y3,y4⟩,_⟩:=aF f0;have hbx:Below w.heap.size w X:=(by rw [← hX];exact iw qT.out _)
      have hbw:Below w.heap.size w Wf:=by
       rw [← hWf]
       exact (((((hbx.setCell (p:=⟨w.heap.size,0,none⟩) (ae _) _).setCell (p:=⟨w.heap.size,1,none⟩) (ae _) _).setCell (p:=⟨w.heap.size,2,none⟩) (ae _) _).setCell (p:=⟨w.heap.size,3,none⟩) (ae _) _).setCell (p:=⟨w.heap.size,4,none⟩) (ae _) _)
      have hfin:P (.returned (.tuple #[.agg #[.string ⟨#[]⟩,.string ⟨#[]⟩,.int .i64 0,.int .i64 0,.slice none 0 0],.int .i64 ff,.int .i64 101])) Wf:=HFin.out (K.gu) ff 101 (.slice none 0 0) Wf Cm.out ⟨none,0,rfl,ae _,.inl rfl⟩ hbw (by decide);clear hWf f0 pX BS hbx hbw r0 r1 r2 r3 r4 g0 g1 g2 g3 g4 p0 p1 p2 p3 p4
      simp [bodyPost,results,Tryz.results26,go_sem,y0,y1,y2,y3,y4]
      exact hfin
    cases fu:op.az
    ·rw [fu] at c2
     have hok:=jF fu;obtain ⟨pp,G9⟩:∃ u,op.pt=u:=⟨_,rfl⟩;rw [G9] at hok
     have ML:¬ op.at+bE L op.at<L.length:=by
      have h:=Jc.out;rw [fu,ai (by decide)] at h
      omega
     have dU:=HWt.out pp (Cx (El.out.trans hok) ML);have hdp:=zQ (size:=sz) (El.out.trans hok) ML;obtain ⟨v1,v2⟩:=MK.out pp op.at hok;obtain ⟨dp,yK⟩:∃ u,deep pp=u:=⟨_,rfl⟩
     have cD:∀ X,Below w8.heap.size w8 X→Calls Tryz.prog 45 #[.agg #[.string ⟨#[]⟩,.string ⟨#[]⟩,.int .i64 0,.int .i64 0,.slice none 0 0]] X fun e X'=>e=.returned (.int .i64 dp)∧Below X.heap.size X X':=fun X hX=>by
      rw [show (.agg #[.string ⟨#[]⟩,.string ⟨#[]⟩,.int .i64 0,.int .i64 0,.slice none 0 0]:Value)=arg pp (.slice none 0 0) from v1,← yK]
      exact qo pp _ _ X (dE v2 hX) (by omega)
     rw [yK] at hdp;have K9:=hid v1;have Hf:=hid v2;have NK:=hid dU;have Cm:=hid hdp;clear fu hln hok G9 ML dU hdp v1 v2 yK
     go_upto_region 11 with fail
     go_quiet (fail)
     go_wp2_with fail
     refine (cD _ (iw (ah _ _) _)).mono ?_;rintro e9 w9 ⟨rfl,oP⟩;have uV:Below w8.heap.size w8 w9:=(iw (ah _ w8) _).trans oP;have Ep:=(uV.block q (af.1 Eo.out).1).trans Eo.out;have yL:=(uV.block _ (af.1 xD.out).1).trans xD.out;have yM:=hid uV;have Er:=hid yL;obtain ⟨⟨p0,p1,p2,p3,p4⟩,-⟩:=aF Ep;obtain ⟨⟨r0,r1,r2,r3,r4⟩,gz⟩:=aF yL;have g0:=gz 0;have g1:=gz 1;have g2:=gz 2;have g3:=gz 3;have g4:=gz 4;clear cD oP uV Ep yL gz
     by_cases Es:40<dp
     ·go_wp2_with fail
      obtain ⟨Wf,hWf,f0,pX,BS⟩:=gP (W:=w9) (a':=.string ⟨#[]⟩) (b':=.string ⟨#[]⟩) (c':=.int .i64 0) (e':=.int .i64 0) (f':=.slice none 0 0) Er.out;rw [hWf];obtain ⟨⟨y0,y1,y2,y3,y4⟩,_⟩:=aF f0;have hbx:Below w.heap.size w w9:=(qT.out.trans (yM.out.mono qT.out.size))
      have hbw:Below w.heap.size w Wf:=by
       rw [← hWf]
       exact (((((hbx.setCell (p:=⟨w.heap.size,0,none⟩) (ae _) _).setCell (p:=⟨w.heap.size,1,none⟩) (ae _) _).setCell (p:=⟨w.heap.size,2,none⟩) (ae _) _).setCell (p:=⟨w.heap.size,3,none⟩) (ae _) _).setCell (p:=⟨w.heap.size,4,none⟩) (ae _) _)
      have hfin:P (.returned (.tuple #[.agg #[.string ⟨#[]⟩,.string ⟨#[]⟩,.int .i64 0,.int .i64 0,.slice none 0 0],.int .i64 0,.int .i64 22])) Wf:=HFin.out (K.gu) 0 22 (.slice none 0 0) Wf (by rw [Cm.out,au Es]) ⟨none,0,rfl,ae _,.inl rfl⟩ hbw (by decide);clear hWf f0 pX BS hbx hbw r0 r1 r2 r3 r4 g0 g1 g2 g3 g4 p0 p1 p2 p3 p4
      simp [bodyPost,results,Tryz.results26,go_sem,y0,y1,y2,y3,y4]
      exact hfin
     ·go_wp2_with fail
      obtain ⟨Wf,hWf,f0,pX,BS⟩:=gP (W:=w9) (a':=.string ⟨#[]⟩) (b':=.string ⟨#[]⟩) (c':=.int .i64 0) (e':=.int .i64 0) (f':=.slice none 0 0) Er.out;rw [hWf];obtain ⟨⟨y0,y1,y2,y3,y4⟩,_⟩:=aF f0;have hbx:Below w.heap.size w w9:=(qT.out.trans (yM.out.mono qT.out.size))
      have hbw:Below w.heap.size w Wf:=by
       rw [← hWf]
       exact (((((hbx.setCell (p:=⟨w.heap.size,0,none⟩) (ae _) _).setCell (p:=⟨w.heap.size,1,none⟩) (ae _) _).setCell (p:=⟨w.heap.size,2,none⟩) (ae _) _).setCell (p:=⟨w.heap.size,3,none⟩) (ae _) _).setCell (p:=⟨w.heap.size,4,none⟩) (ae _) _)
      have hfin:P (.returned (.tuple #[.agg #[.string ⟨#[]⟩,.string ⟨#[]⟩,.int .i64 0,.int .i64 0,.slice none 0 0],.int .i64 0,.int .i64 0])) Wf:=by have h:=HFin.out pp 0 0 (.slice none 0 0) Wf (by rw [Cm.out,ai Es]) (aU.later (fun g hg _=>(pX g (by have:=kH.out;omega)).trans (yM.out.block g hg.2)) (fun g hg=>by show w.heap.size≤g;have:=kH.out;omega) _ _ (aU.live _ _ Hf.out)) hbw NK.out;rw [show arg pp (.slice none 0 0)=(.agg #[.string ⟨#[]⟩,.string ⟨#[]⟩,.int .i64 0,.int .i64 0,.slice none 0 0]:Value) from K9.out.symm] at h;exact h
      clear hWf f0 pX BS hbx hbw r0 r1 r2 r3 r4 g0 g1 g2 g3 g4 p0 p1 p2 p3 p4
      simp [bodyPost,results,Tryz.results26,go_sem,y0,y1,y2,y3,y4]
      exact hfin
   rotate_left
   focus
    skip
    have Qk:Hid (op=record L (8*L.length+10) 0):=hid (by
     rw [← El.out]
     unfold decl
     rw [ai (by rw [HR1.out];decide),ai (by rw [HR2.out];decide),au HR3.out])
    go_wp2_with fail
    refine c7.mono ?_;intro x w7 h9;obtain ⟨rfl,dU⟩:=h9.went Ao.out;have iK:=hid (oq.out.trans (dU.2.mono oq.out.size));have sH:=hid dU.1;clear c7 h9 dU;have cc:=MG d L lv ZX (8*L.length+10) 0 false w7 sH.out (HT4.out.mv iK.out (ae _)) (aM _) (fun _=>by omega);rw [aZ,← Qk.out] at cc;have Qb:Hid (op.at≤L.length):=hid (by rw [Qk.out];exact (MJ L _ 0 (aM _)).le)
    go_wp2_with fail
    refine cc.mono ?_;rintro x w9 ⟨v,rfl,⟨kx,tx,fx,ex,ax,nx,cx,rfl,hnx,Gc⟩,dU⟩;have jw:=hid (iK.out.trans (dU.2.mono iK.out.size));have AQ:w9.heap[q]?=_:=(jw.out.block q kH.out.2.2 (by have:=kH.out;omega)).trans HQP.out;obtain ⟨⟨r0,r1,r2,r3,r4⟩,gz⟩:=aF AQ;have g0:=gz 0;have g1:=gz 1;have g2:=gz 2;have g3:=gz 3;have g4:=gz 4;obtain ⟨WT,BG,Xz,oM,hTs⟩:=gP (a':=.string kx) (b':=.string tx) (c':=.int .i64 fx) (e':=.int .i64 ex) (f':=.slice ax nx cx) AQ;have PN:Hid (WT.heap[q]?=some (.cells #[.string kx,.string tx,.int .i64 fx,.int .i64 ex,.slice ax nx cx] 49 (0,0))):=hid Xz;have ZY:Hid (Rd d lv op.at op.az WT):=hid ((oM d (by have:=kH.out;omega)).trans dU.1);have IB:Hid (Mv q d W4 WT):=hid ((jw.out.mono (by have:=kH.out;omega)).trans ⟨by rw [← BG];rfl,by rw [← BG];rfl,by rw [← BG];rfl,by omega,fun k hk _=>oM k (by omega)⟩);have Nq:Hid (Tk d L lv WT):=hid (HTK.out d WT (by have:=HZ3.out;omega) (fun k hk=>(IB.out.block k (by have:=kH.out;have:=HZ3.out;omega) (by have:=HZ3.out;omega)).trans (vw.out.block k hk)) (aJ vw.out.size IB.out.size));have EC:Hid (∀ p j,op=.ok p j→(.agg #[.string kx,.string tx,.int .i64 fx,.int .i64 ex,.slice ax nx cx]:Value)=.agg (five p (.slice ax nx cx)).toArray∧aU WT (fun g=>q<g) p (.slice ax nx cx)):=hid (fun p j h=>⟨(Gc p j h).1,(Gc p j h).2.later (fun g hg _=>oM g (by have:=iK.out.size;have:=kH.out;omega)) (fun g hg=>by have:=iK.out.size;have:=kH.out;omega)⟩);clear cc dU AQ gz Xz oM hTs Gc
    go_upto_region 10 with fail
    try rw [BG]
    clear r0 r1 r2 r3 r4 g0 g1 g2 g3 g4 BG;have cse:=nX d L lv op.at op.az WT ZY.out Nq.out Qb.out ZX;obtain ⟨k0,hk0⟩:∃ u,op.at+(if op.az then 0 else bE L op.at)=u:=⟨_,rfl⟩;rw [hk0] at cse;obtain ⟨RS,T3⟩:∃ R,decide (0<(if op.az then 0 else bE L op.at))=R:=⟨_,rfl⟩;rw [T3] at cse;have Jc:=hid hk0;clear T3 hk0
    go_wp2_with fail
    refine cse.mono ?_;rintro x w8 ⟨rfl,hw8⟩;have Qj:q<WT.heap.size:=(af.1 PN.out).1;have yI:w8.heap[q]?=_:=(hw8.2.block q Qj (by have:=kH.out;omega)).trans PN.out;have yJ:w8.heap[w.heap.size]?=some (.cells #[.string ⟨#[]⟩,.string ⟨#[]⟩,.int .i64 0,.int .i64 0,.slice none 0 0] 49 (0,0)):=(hw8.2.block _ (by have:=kH.out;omega) (by have:=kH.out;omega)).trans ((IB.out.block _ (by have:=kH.out;omega) (by have:=kH.out;omega)).trans JO.out);have qT:Hid (Below w.heap.size w w8):=hid ((HBW.out.trans ((IB.out.mono (by have:=kH.out;omega)).below (by have:=kH.out;omega))).trans ((hw8.2.mono (by have:=kH.out;omega)).below (by have:=kH.out;omega)));have MK:Hid (∀ p j,op=.ok p j→(.agg #[.string kx,.string tx,.int .i64 fx,.int .i64 ex,.slice ax nx cx]:Value)=.agg (five p (.slice ax nx cx)).toArray∧aU w8 (fun g=>q<g) p (.slice ax nx cx)):=hid (fun p j h=>⟨(EC.out p j h).1,(EC.out p j h).2.later (fun g hg hgl=>hw8.2.block g hgl (by have:=kH.out;omega)) (fun _ hg=>hg)⟩);have Eo:=hid yI;have xD:=hid yJ;have uq:=hid hw8.1;have ZZ:Hid (Tk d L lv w8):=hid (Nq.out.mv hw8.2 (ae _));obtain ⟨⟨p0,p1,p2,p3,p4⟩,-⟩:=aF yI;obtain ⟨⟨r0,r1,r2,r3,r4⟩,gz⟩:=aF yJ;have g0:=gz 0;have g1:=gz 1;have g2:=gz 2;have g3:=gz 3;have g4:=gz 4;have c0:=uq.out.c0;have c1:=uq.out.c1;have c2:=uq.out.c2;rw [← PU.out] at c0;obtain ⟨ln,hln⟩:∃ u,L.length=u:=⟨_,rfl⟩;rw [hln] at c0;have Uh:=hid hln;have hsz':=HSZ.out;clear cse hw8 yI yJ gz Qj
    by_cases hlt:k0<ln
    ·obtain ⟨g,off,cap2,hlv2,hgd,t0,t1,t2,t3⟩:=lH (i:=k0) ZZ.out (by omega)
     rw [← PU.out] at hlv2
     injection hlv2 with i1 i2 i3
     subst i1;subst i3;have T4:L[k0].f=(K.tok L sz k0).f:=(mM (by omega)).symm;rw [T4] at t2;obtain ⟨ff,Ca⟩:∃ u,(K.tok L sz k0).f=u:=⟨_,rfl⟩;rw [Ca] at t2;have HFF:=hid Ca
     have hii:(k0:Int)<(ln:Int):=by omega
     have PO:(0:Int)≤(k0:Int):=by omega
     have T6:kS L sz=(K.gu,ff,101):=by
      have hk0:=Jc.out;rw [← Ca]
      cases fu:op with
      | bad j =>
       rw [fu] at hk0;have hk0:j=k0:=hk0;rw [← hk0]
       exact um (El.out.trans fu)
      | ok p j =>
       rw [fu] at hk0;have hk0:j+bE L j=k0:=hk0;rw [← hk0]
       exact uU (El.out.trans fu) (by omega)
     have Cm:=hid T6;clear T6 T4 t0 t1 t3 Ca hln hgd
     cases fu:op.az
     all_goals
      rw [fu] at c2;clear fu
      go_upto_region 11 with fail
      go_quiet (fail)
      go_upto_region 13 with fail
      go_quiet (fail)
      go_upto_region 14 with fail
      go_quiet (fail)
      go_wp2_with fail
      generalize hX:World.drewN w8 _=X;obtain ⟨Wf,hWf,f0,pX,BS⟩:=gP (W:=X) (a':=.string ⟨#[]⟩) (b':=.string ⟨#[]⟩) (c':=.int .i64 0) (e':=.int .i64 0) (f':=.slice none 0 0) (by rw [← hX];exact xD.out);rw [hWf];obtain ⟨⟨y0,y1,y2,y3,y4⟩,_⟩:=aF f0;have hbx:Below w.heap.size w X:=(by rw [← hX];exact iw qT.out _)
      have hbw:Below w.heap.size w Wf:=by
       rw [← hWf]
       exact (((((hbx.setCell (p:=⟨w.heap.size,0,none⟩) (ae _) _).setCell (p:=⟨w.heap.size,1,none⟩) (ae _) _).setCell (p:=⟨w.heap.size,2,none⟩) (ae _) _).setCell (p:=⟨w.heap.size,3,none⟩) (ae _) _).setCell (p:=⟨w.heap.size,4,none⟩) (ae _) _)
      have hfin:P (.returned (.tuple #[.agg #[.string ⟨#[]⟩,.string ⟨#[]⟩,.int .i64 0,.int .i64 0,.slice none 0 0],.int .i64 ff,.int .i64 101])) Wf:=HFin.out (K.gu) ff 101 (.slice none 0 0) Wf Cm.out ⟨none,0,rfl,ae _,.inl rfl⟩ hbw (by decide);clear hWf f0 pX BS hbx hbw r0 r1 r2 r3 r4 g0 g1 g2 g3 g4 p0 p1 p2 p3 p4
      simp [bodyPost,results,Tryz.results26,go_sem,y0,y1,y2,y3,y4]
      exact hfin
    cases fu:op.az
    ·rw [fu] at c2
     have hok:=jF fu;obtain ⟨pp,G9⟩:∃ u,op.pt=u:=⟨_,rfl⟩;rw [G9] at hok
     have ML:¬ op.at+bE L op.at<L.length:=by
      have h:=Jc.out;rw [fu,ai (by decide)] at h
      omega
     have dU:=HWt.out pp (Cx (El.out.trans hok) ML);have hdp:=zQ (size:=sz) (El.out.trans hok) ML;obtain ⟨v1,v2⟩:=MK.out pp op.at hok;obtain ⟨dp,yK⟩:∃ u,deep pp=u:=⟨_,rfl⟩
     have cD:∀ X,Below w8.heap.size w8 X→Calls Tryz.prog 45 #[.agg #[.string kx,.string tx,.int .i64 fx,.int .i64 ex,.slice ax nx cx]] X fun e X'=>e=.returned (.int .i64 dp)∧Below X.heap.size X X':=fun X hX=>by
      rw [show (.agg #[.string kx,.string tx,.int .i64 fx,.int .i64 ex,.slice ax nx cx]:Value)=arg pp (.slice ax nx cx) from v1,← yK]
      exact qo pp _ _ X (dE v2 hX) (by omega)
     rw [yK] at hdp;have K9:=hid v1;have Hf:=hid v2;have NK:=hid dU;have Cm:=hid hdp;clear fu hln hok G9 ML dU hdp v1 v2 yK
     go_upto_region 11 with fail
     go_quiet (fail)
     go_wp2_with fail
     refine (cD _ (iw (ah _ _) _)).mono ?_;rintro e9 w9 ⟨rfl,oP⟩;have uV:Below w8.heap.size w8 w9:=(iw (ah _ w8) _).trans oP;have Ep:=(uV.block q (af.1 Eo.out).1).trans Eo.out;have yL:=(uV.block _ (af.1 xD.out).1).trans xD.out;have yM:=hid uV;have Er:=hid yL;obtain ⟨⟨p0,p1,p2,p3,p4⟩,-⟩:=aF Ep;obtain ⟨⟨r0,r1,r2,r3,r4⟩,gz⟩:=aF yL;have g0:=gz 0;have g1:=gz 1;have g2:=gz 2;have g3:=gz 3;have g4:=gz 4;clear cD oP uV Ep yL gz
     by_cases Es:40<dp
     ·go_wp2_with fail
      obtain ⟨Wf,hWf,f0,pX,BS⟩:=gP (W:=w9) (a':=.string ⟨#[]⟩) (b':=.string ⟨#[]⟩) (c':=.int .i64 0) (e':=.int .i64 0) (f':=.slice none 0 0) Er.out;rw [hWf];obtain ⟨⟨y0,y1,y2,y3,y4⟩,_⟩:=aF f0;have hbx:Below w.heap.size w w9:=(qT.out.trans (yM.out.mono qT.out.size))
      have hbw:Below w.heap.size w Wf:=by
       rw [← hWf]
       exact (((((hbx.setCell (p:=⟨w.heap.size,0,none⟩) (ae _) _).setCell (p:=⟨w.heap.size,1,none⟩) (ae _) _).setCell (p:=⟨w.heap.size,2,none⟩) (ae _) _).setCell (p:=⟨w.heap.size,3,none⟩) (ae _) _).setCell (p:=⟨w.heap.size,4,none⟩) (ae _) _)
      have hfin:P (.returned (.tuple #[.agg #[.string ⟨#[]⟩,.string ⟨#[]⟩,.int .i64 0,.int .i64 0,.slice none 0 0],.int .i64 0,.int .i64 22])) Wf:=HFin.out (K.gu) 0 22 (.slice none 0 0) Wf (by rw [Cm.out,au Es]) ⟨none,0,rfl,ae _,.inl rfl⟩ hbw (by decide);clear hWf f0 pX BS hbx hbw r0 r1 r2 r3 r4 g0 g1 g2 g3 g4 p0 p1 p2 p3 p4
      simp [bodyPost,results,Tryz.results26,go_sem,y0,y1,y2,y3,y4]
      exact hfin
     ·go_wp2_with fail
      obtain ⟨Wf,hWf,f0,pX,BS⟩:=gP (W:=w9) (a':=.string kx) (b':=.string tx) (c':=.int .i64 fx) (e':=.int .i64 ex) (f':=.slice ax nx cx) Er.out;rw [hWf];obtain ⟨⟨y0,y1,y2,y3,y4⟩,_⟩:=aF f0;have hbx:Below w.heap.size w w9:=(qT.out.trans (yM.out.mono qT.out.size))
      have hbw:Below w.heap.size w Wf:=by
       rw [← hWf]
       exact (((((hbx.setCell (p:=⟨w.heap.size,0,none⟩) (ae _) _).setCell (p:=⟨w.heap.size,1,none⟩) (ae _) _).setCell (p:=⟨w.heap.size,2,none⟩) (ae _) _).setCell (p:=⟨w.heap.size,3,none⟩) (ae _) _).setCell (p:=⟨w.heap.size,4,none⟩) (ae _) _)
      have hfin:P (.returned (.tuple #[.agg #[.string kx,.string tx,.int .i64 fx,.int .i64 ex,.slice ax nx cx],.int .i64 0,.int .i64 0])) Wf:=by have h:=HFin.out pp 0 0 (.slice ax nx cx) Wf (by rw [Cm.out,ai Es]) (aU.later (fun g hg _=>(pX g (by have:=kH.out;omega)).trans (yM.out.block g hg.2)) (fun g hg=>by show w.heap.size≤g;have:=kH.out;omega) _ _ (aU.live _ _ Hf.out)) hbw NK.out;rw [show arg pp (.slice ax nx cx)=(.agg #[.string kx,.string tx,.int .i64 fx,.int .i64 ex,.slice ax nx cx]:Value) from K9.out.symm] at h;exact h
      clear hWf f0 pX BS hbx hbw r0 r1 r2 r3 r4 g0 g1 g2 g3 g4 p0 p1 p2 p3 p4
      simp [bodyPost,results,Tryz.results26,go_sem,y0,y1,y2,y3,y4]
      exact hfin
   rotate_left
  rotate_left 2
  focus
   skip
   have Qk:Hid (op=iU L (8*L.length+10) 0):=hid (by
    rw [← El.out]
    unfold decl
    rw [ai (by rw [HR1.out];decide),au HR2.out])
   go_wp2_with fail
   refine c6.mono ?_;intro x w6 h9;obtain ⟨rfl,dU⟩:=h9.went vD.out;have oq:=hid (mU.out.trans (dU.2.mono mU.out.size));have Ao:=hid dU.1;clear c6 h9 dU;have cc:=zH d L lv ZX (8*L.length+10) 0 false w6 Ao.out (HT4.out.mv oq.out (ae _)) (aM _) (fun _=>by omega);rw [aZ,← Qk.out] at cc;have Qb:Hid (op.at≤L.length):=hid (by rw [Qk.out];exact (zG _ (aM _)).le)
   go_wp2_with fail
   refine cc.mono ?_;rintro x w9 ⟨v,rfl,⟨kx,tx,fx,ex,ax,nx,cx,rfl,hnx,Gc⟩,dU⟩;have jw:=hid (oq.out.trans (dU.2.mono oq.out.size));have AQ:w9.heap[q]?=_:=(jw.out.block q kH.out.2.2 (by have:=kH.out;omega)).trans HQP.out;obtain ⟨⟨r0,r1,r2,r3,r4⟩,gz⟩:=aF AQ;have g0:=gz 0;have g1:=gz 1;have g2:=gz 2;have g3:=gz 3;have g4:=gz 4;obtain ⟨WT,BG,Xz,oM,hTs⟩:=gP (a':=.string kx) (b':=.string tx) (c':=.int .i64 fx) (e':=.int .i64 ex) (f':=.slice ax nx cx) AQ;have PN:Hid (WT.heap[q]?=some (.cells #[.string kx,.string tx,.int .i64 fx,.int .i64 ex,.slice ax nx cx] 49 (0,0))):=hid Xz;have ZY:Hid (Rd d lv op.at op.az WT):=hid ((oM d (by have:=kH.out;omega)).trans dU.1);have IB:Hid (Mv q d W4 WT):=hid ((jw.out.mono (by have:=kH.out;omega)).trans ⟨by rw [← BG];rfl,by rw [← BG];rfl,by rw [← BG];rfl,by omega,fun k hk _=>oM k (by omega)⟩);have Nq:Hid (Tk d L lv WT):=hid (HTK.out d WT (by have:=HZ3.out;omega) (fun k hk=>(IB.out.block k (by have:=kH.out;have:=HZ3.out;omega) (by have:=HZ3.out;omega)).trans (vw.out.block k hk)) (aJ vw.out.size IB.out.size));have EC:Hid (∀ p j,op=.ok p j→(.agg #[.string kx,.string tx,.int .i64 fx,.int .i64 ex,.slice ax nx cx]:Value)=.agg (five p (.slice ax nx cx)).toArray∧aU WT (fun g=>q<g) p (.slice ax nx cx)):=hid (fun p j h=>⟨(Gc p j h).1,(Gc p j h).2.later (fun g hg _=>oM g (by have:=oq.out.size;have:=kH.out;omega)) (fun g hg=>by have:=oq.out.size;have:=kH.out;omega)⟩);clear cc dU AQ gz Xz oM hTs Gc
   go_upto_region 10 with fail
   try rw [BG]
   clear r0 r1 r2 r3 r4 g0 g1 g2 g3 g4 BG;have cse:=nX d L lv op.at op.az WT ZY.out Nq.out Qb.out ZX;obtain ⟨k0,hk0⟩:∃ u,op.at+(if op.az then 0 else bE L op.at)=u:=⟨_,rfl⟩;rw [hk0] at cse;obtain ⟨RS,T3⟩:∃ R,decide (0<(if op.az then 0 else bE L op.at))=R:=⟨_,rfl⟩;rw [T3] at cse;have Jc:=hid hk0;clear T3 hk0
   go_wp2_with fail
   refine cse.mono ?_;rintro x w8 ⟨rfl,hw8⟩;have Qj:q<WT.heap.size:=(af.1 PN.out).1;have yI:w8.heap[q]?=_:=(hw8.2.block q Qj (by have:=kH.out;omega)).trans PN.out;have yJ:w8.heap[w.heap.size]?=some (.cells #[.string ⟨#[]⟩,.string ⟨#[]⟩,.int .i64 0,.int .i64 0,.slice none 0 0] 49 (0,0)):=(hw8.2.block _ (by have:=kH.out;omega) (by have:=kH.out;omega)).trans ((IB.out.block _ (by have:=kH.out;omega) (by have:=kH.out;omega)).trans JO.out);have qT:Hid (Below w.heap.size w w8):=hid ((HBW.out.trans ((IB.out.mono (by have:=kH.out;omega)).below (by have:=kH.out;omega))).trans ((hw8.2.mono (by have:=kH.out;omega)).below (by have:=kH.out;omega)));have MK:Hid (∀ p j,op=.ok p j→(.agg #[.string kx,.string tx,.int .i64 fx,.int .i64 ex,.slice ax nx cx]:Value)=.agg (five p (.slice ax nx cx)).toArray∧aU w8 (fun g=>q<g) p (.slice ax nx cx)):=hid (fun p j h=>⟨(EC.out p j h).1,(EC.out p j h).2.later (fun g hg hgl=>hw8.2.block g hgl (by have:=kH.out;omega)) (fun _ hg=>hg)⟩);have Eo:=hid yI;have xD:=hid yJ;have uq:=hid hw8.1;have ZZ:Hid (Tk d L lv w8):=hid (Nq.out.mv hw8.2 (ae _));obtain ⟨⟨p0,p1,p2,p3,p4⟩,-⟩:=aF yI;obtain ⟨⟨r0,r1,r2,r3,r4⟩,gz⟩:=aF yJ;have g0:=gz 0;have g1:=gz 1;have g2:=gz 2;have g3:=gz 3;have g4:=gz 4;have c0:=uq.out.c0;have c1:=uq.out.c1;have c2:=uq.out.c2;rw [← PU.out] at c0;obtain ⟨ln,hln⟩:∃ u,L.length=u:=⟨_,rfl⟩;rw [hln] at c0;have Uh:=hid hln;have hsz':=HSZ.out;clear cse hw8 yI yJ gz Qj
   by_cases hlt:k0<ln
   ·obtain ⟨g,off,cap2,hlv2,hgd,t0,t1,t2,t3⟩:=lH (i:=k0) ZZ.out (by omega)
    rw [← PU.out] at hlv2
    injection hlv2 with i1 i2 i3
    subst i1;subst i3;have T4:L[k0].f=(K.tok L sz k0).f:=(mM (by omega)).symm;rw [T4] at t2;obtain ⟨ff,Ca⟩:∃ u,(K.tok L sz k0).f=u:=⟨_,rfl⟩;rw [Ca] at t2;have HFF:=hid Ca
    have hii:(k0:Int)<(ln:Int):=by omega
    have PO:(0:Int)≤(k0:Int):=by omega
    have T6:kS L sz=(K.gu,ff,101):=by
     have hk0:=Jc.out;rw [← Ca]
     cases fu:op with
     | bad j =>
      rw [fu] at hk0;have hk0:j=k0:=hk0;rw [← hk0]
      exact um (El.out.trans fu)
     | ok p j =>
      rw [fu] at hk0;have hk0:j+bE L j=k0:=hk0;rw [← hk0]
      exact uU (El.out.trans fu) (by omega)
    have Cm:=hid T6;clear T6 T4 t0 t1 t3 Ca hln hgd
    cases fu:op.az
    all_goals
     rw [fu] at c2;clear fu
     go_upto_region 11 with fail
     go_quiet (fail)
     go_upto_region 13 with fail
     go_quiet (fail)
     go_upto_region 14 with fail
     go_quiet (fail)
     go_wp2_with fail
     generalize hX:World.drewN w8 _=X;obtain ⟨Wf,hWf,f0,pX,BS⟩:=gP (W:=X) (a':=.string ⟨#[]⟩) (b':=.string ⟨#[]⟩) (c':=.int .i64 0) (e':=.int .i64 0) (f':=.slice none 0 0) (by rw [← hX];exact xD.out);rw [hWf];obtain ⟨⟨y0,y1,y2,y3,y4⟩,_⟩:=aF f0;have hbx:Below w.heap.size w X:=(by rw [← hX];exact iw qT.out _)
     have hbw:Below w.heap.size w Wf:=by
      rw [← hWf]
      exact (((((hbx.setCell (p:=⟨w.heap.size,0,none⟩) (ae _) _).setCell (p:=⟨w.heap.size,1,none⟩) (ae _) _).setCell (p:=⟨w.heap.size,2,none⟩) (ae _) _).setCell (p:=⟨w.heap.size,3,none⟩) (ae _) _).setCell (p:=⟨w.heap.size,4,none⟩) (ae _) _)
     have hfin:P (.returned (.tuple #[.agg #[.string ⟨#[]⟩,.string ⟨#[]⟩,.int .i64 0,.int .i64 0,.slice none 0 0],.int .i64 ff,.int .i64 101])) Wf:=HFin.out (K.gu) ff 101 (.slice none 0 0) Wf Cm.out ⟨none,0,rfl,ae _,.inl rfl⟩ hbw (by decide);clear hWf f0 pX BS hbx hbw r0 r1 r2 r3 r4 g0 g1 g2 g3 g4 p0 p1 p2 p3 p4
     simp [bodyPost,results,Tryz.results26,go_sem,y0,y1,y2,y3,y4]
     exact hfin
   cases fu:op.az
   ·rw [fu] at c2
    have hok:=jF fu;obtain ⟨pp,G9⟩:∃ u,op.pt=u:=⟨_,rfl⟩;rw [G9] at hok
    have ML:¬ op.at+bE L op.at<L.length:=by
     have h:=Jc.out;rw [fu,ai (by decide)] at h
     omega
    have dU:=HWt.out pp (Cx (El.out.trans hok) ML);have hdp:=zQ (size:=sz) (El.out.trans hok) ML;obtain ⟨v1,v2⟩:=MK.out pp op.at hok;obtain ⟨dp,yK⟩:∃ u,deep pp=u:=⟨_,rfl⟩
    have cD:∀ X,Below w8.heap.size w8 X→Calls Tryz.prog 45 #[.agg #[.string kx,.string tx,.int .i64 fx,.int .i64 ex,.slice ax nx cx]] X fun e X'=>e=.returned (.int .i64 dp)∧Below X.heap.size X X':=fun X hX=>by
     rw [show (.agg #[.string kx,.string tx,.int .i64 fx,.int .i64 ex,.slice ax nx cx]:Value)=arg pp (.slice ax nx cx) from v1,← yK]
     exact qo pp _ _ X (dE v2 hX) (by omega)
    rw [yK] at hdp;have K9:=hid v1;have Hf:=hid v2;have NK:=hid dU;have Cm:=hid hdp;clear fu hln hok G9 ML dU hdp v1 v2 yK
    go_upto_region 11 with fail
    go_quiet (fail)
    go_wp2_with fail
    refine (cD _ (iw (ah _ _) _)).mono ?_;rintro e9 w9 ⟨rfl,oP⟩;have uV:Below w8.heap.size w8 w9:=(iw (ah _ w8) _).trans oP;have Ep:=(uV.block q (af.1 Eo.out).1).trans Eo.out;have yL:=(uV.block _ (af.1 xD.out).1).trans xD.out;have yM:=hid uV;have Er:=hid yL;obtain ⟨⟨p0,p1,p2,p3,p4⟩,-⟩:=aF Ep;obtain ⟨⟨r0,r1,r2,r3,r4⟩,gz⟩:=aF yL;have g0:=gz 0;have g1:=gz 1;have g2:=gz 2;have g3:=gz 3;have g4:=gz 4;clear cD oP uV Ep yL gz
    by_cases Es:40<dp
    ·go_wp2_with fail
     obtain ⟨Wf,hWf,f0,pX,BS⟩:=gP (W:=w9) (a':=.string ⟨#[]⟩) (b':=.string ⟨#[]⟩) (c':=.int .i64 0) (e':=.int .i64 0) (f':=.slice none 0 0) Er.out;rw [hWf];obtain ⟨⟨y0,y1,y2,y3,y4⟩,_⟩:=aF f0;have hbx:Below w.heap.size w w9:=(qT.out.trans (yM.out.mono qT.out.size))
     have hbw:Below w.heap.size w Wf:=by
      rw [← hWf]
      exact (((((hbx.setCell (p:=⟨w.heap.size,0,none⟩) (ae _) _).setCell (p:=⟨w.heap.size,1,none⟩) (ae _) _).setCell (p:=⟨w.heap.size,2,none⟩) (ae _) _).setCell (p:=⟨w.heap.size,3,none⟩) (ae _) _).setCell (p:=⟨w.heap.size,4,none⟩) (ae _) _)
     have hfin:P (.returned (.tuple #[.agg #[.string ⟨#[]⟩,.string ⟨#[]⟩,.int .i64 0,.int .i64 0,.slice none 0 0],.int .i64 0,.int .i64 22])) Wf:=HFin.out (K.gu) 0 22 (.slice none 0 0) Wf (by rw [Cm.out,au Es]) ⟨none,0,rfl,ae _,.inl rfl⟩ hbw (by decide);clear hWf f0 pX BS hbx hbw r0 r1 r2 r3 r4 g0 g1 g2 g3 g4 p0 p1 p2 p3 p4
     simp [bodyPost,results,Tryz.results26,go_sem,y0,y1,y2,y3,y4]
     exact hfin
    ·go_wp2_with fail
     obtain ⟨Wf,hWf,f0,pX,BS⟩:=gP (W:=w9) (a':=.string kx) (b':=.string tx) (c':=.int .i64 fx) (e':=.int .i64 ex) (f':=.slice ax nx cx) Er.out;rw [hWf];obtain ⟨⟨y0,y1,y2,y3,y4⟩,_⟩:=aF f0;have hbx:Below w.heap.size w w9:=(qT.out.trans (yM.out.mono qT.out.size))
     have hbw:Below w.heap.size w Wf:=by
      rw [← hWf]
      exact (((((hbx.setCell (p:=⟨w.heap.size,0,none⟩) (ae _) _).setCell (p:=⟨w.heap.size,1,none⟩) (ae _) _).setCell (p:=⟨w.heap.size,2,none⟩) (ae _) _).setCell (p:=⟨w.heap.size,3,none⟩) (ae _) _).setCell (p:=⟨w.heap.size,4,none⟩) (ae _) _)
     have hfin:P (.returned (.tuple #[.agg #[.string kx,.string tx,.int .i64 fx,.int .i64 ex,.slice ax nx cx],.int .i64 0,.int .i64 0])) Wf:=by have h:=HFin.out pp 0 0 (.slice ax nx cx) Wf (by rw [Cm.out,ai Es]) (aU.later (fun g hg _=>(pX g (by have:=kH.out;omega)).trans (yM.out.block g hg.2)) (fun g hg=>by show w.heap.size≤g;have:=kH.out;omega) _ _ (aU.live _ _ Hf.out)) hbw NK.out;rw [show arg pp (.slice ax nx cx)=(.agg #[.string kx,.string tx,.int .i64 fx,.int .i64 ex,.slice ax nx cx]:Value) from K9.out.symm] at h;exact h
     clear hWf f0 pX BS hbx hbw r0 r1 r2 r3 r4 g0 g1 g2 g3 g4 p0 p1 p2 p3 p4
     simp [bodyPost,results,Tryz.results26,go_sem,y0,y1,y2,y3,y4]
     exact hfin
  rotate_left
 rotate_left 3
 focus
  skip
  have Qk:Hid (op=si L (8*L.length+10) 0):=hid (by
   rw [← El.out]
   unfold decl
   rw [au HR1.out])
  go_wp2_with fail
  refine c5.mono ?_;intro x w5 h9;obtain ⟨rfl,dU⟩:=h9.went HR4.out;have mU:=hid (mO.out.trans (dU.2.mono mO.out.size));have vD:=hid dU.1;clear c5 h9 dU;have cc:=Iz d L lv ZX (8*L.length+10) 0 false w5 vD.out (HT4.out.mv mU.out (ae _)) (aM _) (fun _=>by omega);rw [aZ,← Qk.out] at cc;have Qb:Hid (op.at≤L.length):=hid (by rw [Qk.out];exact (TZ L _ 0 (aM _)).le)
  go_wp2_with fail
  refine cc.mono ?_;rintro x w9 ⟨v,rfl,⟨kx,tx,fx,ex,ax,nx,cx,rfl,hnx,Gc⟩,dU⟩;have jw:=hid (mU.out.trans (dU.2.mono mU.out.size));have AQ:w9.heap[q]?=_:=(jw.out.block q kH.out.2.2 (by have:=kH.out;omega)).trans HQP.out;obtain ⟨⟨r0,r1,r2,r3,r4⟩,gz⟩:=aF AQ;have g0:=gz 0;have g1:=gz 1;have g2:=gz 2;have g3:=gz 3;have g4:=gz 4;obtain ⟨WT,BG,Xz,oM,hTs⟩:=gP (a':=.string kx) (b':=.string tx) (c':=.int .i64 fx) (e':=.int .i64 ex) (f':=.slice ax nx cx) AQ;have PN:Hid (WT.heap[q]?=some (.cells #[.string kx,.string tx,.int .i64 fx,.int .i64 ex,.slice ax nx cx] 49 (0,0))):=hid Xz;have ZY:Hid (Rd d lv op.at op.az WT):=hid ((oM d (by have:=kH.out;omega)).trans dU.1);have IB:Hid (Mv q d W4 WT):=hid ((jw.out.mono (by have:=kH.out;omega)).trans ⟨by rw [← BG];rfl,by rw [← BG];rfl,by rw [← BG];rfl,by omega,fun k hk _=>oM k (by omega)⟩);have Nq:Hid (Tk d L lv WT):=hid (HTK.out d WT (by have:=HZ3.out;omega) (fun k hk=>(IB.out.block k (by have:=kH.out;have:=HZ3.out;omega) (by have:=HZ3.out;omega)).trans (vw.out.block k hk)) (aJ vw.out.size IB.out.size));have EC:Hid (∀ p j,op=.ok p j→(.agg #[.string kx,.string tx,.int .i64 fx,.int .i64 ex,.slice ax nx cx]:Value)=.agg (five p (.slice ax nx cx)).toArray∧aU WT (fun g=>q<g) p (.slice ax nx cx)):=hid (fun p j h=>⟨(Gc p j h).1,(Gc p j h).2.later (fun g hg _=>oM g (by have:=mU.out.size;have:=kH.out;omega)) (fun g hg=>by have:=mU.out.size;have:=kH.out;omega)⟩);clear cc dU AQ gz Xz oM hTs Gc
  go_upto_region 10 with fail
  try rw [BG]
  clear r0 r1 r2 r3 r4 g0 g1 g2 g3 g4 BG;have cse:=nX d L lv op.at op.az WT ZY.out Nq.out Qb.out ZX;obtain ⟨k0,hk0⟩:∃ u,op.at+(if op.az then 0 else bE L op.at)=u:=⟨_,rfl⟩;rw [hk0] at cse;obtain ⟨RS,T3⟩:∃ R,decide (0<(if op.az then 0 else bE L op.at))=R:=⟨_,rfl⟩;rw [T3] at cse;have Jc:=hid hk0;clear T3 hk0
  go_wp2_with fail
  refine cse.mono ?_;rintro x w8 ⟨rfl,hw8⟩;have Qj:q<WT.heap.size:=(af.1 PN.out).1;have yI:w8.heap[q]?=_:=(hw8.2.block q Qj (by have:=kH.out;omega)).trans PN.out;have yJ:w8.heap[w.heap.size]?=some (.cells #[.string ⟨#[]⟩,.string ⟨#[]⟩,.int .i64 0,.int .i64 0,.slice none 0 0] 49 (0,0)):=(hw8.2.block _ (by have:=kH.out;omega) (by have:=kH.out;omega)).trans ((IB.out.block _ (by have:=kH.out;omega) (by have:=kH.out;omega)).trans JO.out);have qT:Hid (Below w.heap.size w w8):=hid ((HBW.out.trans ((IB.out.mono (by have:=kH.out;omega)).below (by have:=kH.out;omega))).trans ((hw8.2.mono (by have:=kH.out;omega)).below (by have:=kH.out;omega)));have MK:Hid (∀ p j,op=.ok p j→(.agg #[.string kx,.string tx,.int .i64 fx,.int .i64 ex,.slice ax nx cx]:Value)=.agg (five p (.slice ax nx cx)).toArray∧aU w8 (fun g=>q<g) p (.slice ax nx cx)):=hid (fun p j h=>⟨(EC.out p j h).1,(EC.out p j h).2.later (fun g hg hgl=>hw8.2.block g hgl (by have:=kH.out;omega)) (fun _ hg=>hg)⟩);have Eo:=hid yI;have xD:=hid yJ;have uq:=hid hw8.1;have ZZ:Hid (Tk d L lv w8):=hid (Nq.out.mv hw8.2 (ae _));obtain ⟨⟨p0,p1,p2,p3,p4⟩,-⟩:=aF yI;obtain ⟨⟨r0,r1,r2,r3,r4⟩,gz⟩:=aF yJ;have g0:=gz 0;have g1:=gz 1;have g2:=gz 2;have g3:=gz 3;have g4:=gz 4;have c0:=uq.out.c0;have c1:=uq.out.c1;have c2:=uq.out.c2;rw [← PU.out] at c0;obtain ⟨ln,hln⟩:∃ u,L.length=u:=⟨_,rfl⟩;rw [hln] at c0;have Uh:=hid hln;have hsz':=HSZ.out;clear cse hw8 yI yJ gz Qj
  by_cases hlt:k0<ln
  ·obtain ⟨g,off,cap2,hlv2,hgd,t0,t1,t2,t3⟩:=lH (i:=k0) ZZ.out (by omega)
   rw [← PU.out] at hlv2
   injection hlv2 with i1 i2 i3
   subst i1;subst i3;have T4:L[k0].f=(K.tok L sz k0).f:=(mM (by omega)).symm;rw [T4] at t2;obtain ⟨ff,Ca⟩:∃ u,(K.tok L sz k0).f=u:=⟨_,rfl⟩;rw [Ca] at t2;have HFF:=hid Ca
   have hii:(k0:Int)<(ln:Int):=by omega
   have PO:(0:Int)≤(k0:Int):=by omega
   have T6:kS L sz=(K.gu,ff,101):=by
    have hk0:=Jc.out;rw [← Ca]
    cases fu:op with
    | bad j =>
     rw [fu] at hk0;have hk0:j=k0:=hk0;rw [← hk0]
     exact um (El.out.trans fu)
    | ok p j =>
     rw [fu] at hk0;have hk0:j+bE L j=k0:=hk0;rw [← hk0]
     exact uU (El.out.trans fu) (by omega)
   have Cm:=hid T6;clear T6 T4 t0 t1 t3 Ca hln hgd
   cases fu:op.az
   all_goals
    rw [fu] at c2;clear fu
    go_upto_region 11 with fail
    go_quiet (fail)
    go_upto_region 13 with fail
    go_quiet (fail)
    go_upto_region 14 with fail
    go_quiet (fail)
    go_wp2_with fail
    generalize hX:World.drewN w8 _=X;obtain ⟨Wf,hWf,f0,pX,BS⟩:=gP (W:=X) (a':=.string ⟨#[]⟩) (b':=.string ⟨#[]⟩) (c':=.int .i64 0) (e':=.int .i64 0) (f':=.slice none 0 0) (by rw [← hX];exact xD.out);rw [hWf];obtain ⟨⟨y0,y1,y2,y3,y4⟩,_⟩:=aF f0;have hbx:Below w.heap.size w X:=(by rw [← hX];exact iw qT.out _)
    have hbw:Below w.heap.size w Wf:=by
     rw [← hWf]
     exact (((((hbx.setCell (p:=⟨w.heap.size,0,none⟩) (ae _) _).setCell (p:=⟨w.heap.size,1,none⟩) (ae _) _).setCell (p:=⟨w.heap.size,2,none⟩) (ae _) _).setCell (p:=⟨w.heap.size,3,none⟩) (ae _) _).setCell (p:=⟨w.heap.size,4,none⟩) (ae _) _)
    have hfin:P (.returned (.tuple #[.agg #[.string ⟨#[]⟩,.string ⟨#[]⟩,.int .i64 0,.int .i64 0,.slice none 0 0],.int .i64 ff,.int .i64 101])) Wf:=HFin.out (K.gu) ff 101 (.slice none 0 0) Wf Cm.out ⟨none,0,rfl,ae _,.inl rfl⟩ hbw (by decide);clear hWf f0 pX BS hbx hbw r0 r1 r2 r3 r4 g0 g1 g2 g3 g4 p0 p1 p2 p3 p4
    simp [bodyPost,results,Tryz.results26,go_sem,y0,y1,y2,y3,y4]
    exact hfin
  cases fu:op.az
  ·rw [fu] at c2
   have hok:=jF fu;obtain ⟨pp,G9⟩:∃ u,op.pt=u:=⟨_,rfl⟩;rw [G9] at hok
   have ML:¬ op.at+bE L op.at<L.length:=by
    have h:=Jc.out;rw [fu,ai (by decide)] at h
    omega
   have dU:=HWt.out pp (Cx (El.out.trans hok) ML);have hdp:=zQ (size:=sz) (El.out.trans hok) ML;obtain ⟨v1,v2⟩:=MK.out pp op.at hok;obtain ⟨dp,yK⟩:∃ u,deep pp=u:=⟨_,rfl⟩
   have cD:∀ X,Below w8.heap.size w8 X→Calls Tryz.prog 45 #[.agg #[.string kx,.string tx,.int .i64 fx,.int .i64 ex,.slice ax nx cx]] X fun e X'=>e=.returned (.int .i64 dp)∧Below X.heap.size X X':=fun X hX=>by
    rw [show (.agg #[.string kx,.string tx,.int .i64 fx,.int .i64 ex,.slice ax nx cx]:Value)=arg pp (.slice ax nx cx) from v1,← yK]
    exact qo pp _ _ X (dE v2 hX) (by omega)
   rw [yK] at hdp;have K9:=hid v1;have Hf:=hid v2;have NK:=hid dU;have Cm:=hid hdp;clear fu hln hok G9 ML dU hdp v1 v2 yK
   go_upto_region 11 with fail
   go_quiet (fail)
   go_wp2_with fail
   refine (cD _ (iw (ah _ _) _)).mono ?_;rintro e9 w9 ⟨rfl,oP⟩;have uV:Below w8.heap.size w8 w9:=(iw (ah _ w8) _).trans oP;have Ep:=(uV.block q (af.1 Eo.out).1).trans Eo.out;have yL:=(uV.block _ (af.1 xD.out).1).trans xD.out;have yM:=hid uV;have Er:=hid yL;obtain ⟨⟨p0,p1,p2,p3,p4⟩,-⟩:=aF Ep;obtain ⟨⟨r0,r1,r2,r3,r4⟩,gz⟩:=aF yL;have g0:=gz 0;have g1:=gz 1;have g2:=gz 2;have g3:=gz 3;have g4:=gz 4;clear cD oP uV Ep yL gz
   by_cases Es:40<dp
   ·go_wp2_with fail
    obtain ⟨Wf,hWf,f0,pX,BS⟩:=gP (W:=w9) (a':=.string ⟨#[]⟩) (b':=.string ⟨#[]⟩) (c':=.int .i64 0) (e':=.int .i64 0) (f':=.slice none 0 0) Er.out;rw [hWf];obtain ⟨⟨y0,y1,y2,y3,y4⟩,_⟩:=aF f0;have hbx:Below w.heap.size w w9:=(qT.out.trans (yM.out.mono qT.out.size))
    have hbw:Below w.heap.size w Wf:=by
     rw [← hWf]
     exact (((((hbx.setCell (p:=⟨w.heap.size,0,none⟩) (ae _) _).setCell (p:=⟨w.heap.size,1,none⟩) (ae _) _).setCell (p:=⟨w.heap.size,2,none⟩) (ae _) _).setCell (p:=⟨w.heap.size,3,none⟩) (ae _) _).setCell (p:=⟨w.heap.size,4,none⟩) (ae _) _)
    have hfin:P (.returned (.tuple #[.agg #[.string ⟨#[]⟩,.string ⟨#[]⟩,.int .i64 0,.int .i64 0,.slice none 0 0],.int .i64 0,.int .i64 22])) Wf:=HFin.out (K.gu) 0 22 (.slice none 0 0) Wf (by rw [Cm.out,au Es]) ⟨none,0,rfl,ae _,.inl rfl⟩ hbw (by decide);clear hWf f0 pX BS hbx hbw r0 r1 r2 r3 r4 g0 g1 g2 g3 g4 p0 p1 p2 p3 p4
    simp [bodyPost,results,Tryz.results26,go_sem,y0,y1,y2,y3,y4]
    exact hfin
   ·go_wp2_with fail
    obtain ⟨Wf,hWf,f0,pX,BS⟩:=gP (W:=w9) (a':=.string kx) (b':=.string tx) (c':=.int .i64 fx) (e':=.int .i64 ex) (f':=.slice ax nx cx) Er.out;rw [hWf];obtain ⟨⟨y0,y1,y2,y3,y4⟩,_⟩:=aF f0;have hbx:Below w.heap.size w w9:=(qT.out.trans (yM.out.mono qT.out.size))
    have hbw:Below w.heap.size w Wf:=by
     rw [← hWf]
     exact (((((hbx.setCell (p:=⟨w.heap.size,0,none⟩) (ae _) _).setCell (p:=⟨w.heap.size,1,none⟩) (ae _) _).setCell (p:=⟨w.heap.size,2,none⟩) (ae _) _).setCell (p:=⟨w.heap.size,3,none⟩) (ae _) _).setCell (p:=⟨w.heap.size,4,none⟩) (ae _) _)
    have hfin:P (.returned (.tuple #[.agg #[.string kx,.string tx,.int .i64 fx,.int .i64 ex,.slice ax nx cx],.int .i64 0,.int .i64 0])) Wf:=by have h:=HFin.out pp 0 0 (.slice ax nx cx) Wf (by rw [Cm.out,ai Es]) (aU.later (fun g hg _=>(pX g (by have:=kH.out;omega)).trans (yM.out.block g hg.2)) (fun g hg=>by show w.heap.size≤g;have:=kH.out;omega) _ _ (aU.live _ _ Hf.out)) hbw NK.out;rw [show arg pp (.slice ax nx cx)=(.agg #[.string kx,.string tx,.int .i64 fx,.int .i64 ex,.slice ax nx cx]:Value) from K9.out.symm] at h;exact h
    clear hWf f0 pX BS hbx hbw r0 r1 r2 r3 r4 g0 g1 g2 g3 g4 p0 p1 p2 p3 p4
    simp [bodyPost,results,Tryz.results26,go_sem,y0,y1,y2,y3,y4]
    exact hfin
 rotate_left
 all_goals
  rw [fu] at c2
  have Cm:Hid (kS L sz=(K.gu,(sz:Int),101)):=hid (by
   have hk0:=Jc.out
   cases Z0:op with
   | ok p j=>rw [Z0] at fu;cases fu
   | bad j =>
    rw [Z0] at hk0;have hk0:j=k0:=hk0
    rw [um (El.out.trans Z0),qL (by omega)])
  clear fu hln
  go_upto_region 11 with fail
  go_quiet (fail)
  go_upto_region 13 with fail
  go_quiet (fail)
  go_wp2_with fail
  generalize hX:World.drewN w8 _=X;obtain ⟨Wf,hWf,f0,pX,BS⟩:=gP (W:=X) (a':=.string ⟨#[]⟩) (b':=.string ⟨#[]⟩) (c':=.int .i64 0) (e':=.int .i64 0) (f':=.slice none 0 0) (by rw [← hX];exact xD.out);rw [hWf];obtain ⟨⟨y0,y1,y2,y3,y4⟩,_⟩:=aF f0;have hbx:Below w.heap.size w X:=(by rw [← hX];exact iw qT.out _)
  have hbw:Below w.heap.size w Wf:=by
   rw [← hWf]
   exact (((((hbx.setCell (p:=⟨w.heap.size,0,none⟩) (ae _) _).setCell (p:=⟨w.heap.size,1,none⟩) (ae _) _).setCell (p:=⟨w.heap.size,2,none⟩) (ae _) _).setCell (p:=⟨w.heap.size,3,none⟩) (ae _) _).setCell (p:=⟨w.heap.size,4,none⟩) (ae _) _)
  have hfin:P (.returned (.tuple #[.agg #[.string ⟨#[]⟩,.string ⟨#[]⟩,.int .i64 0,.int .i64 0,.slice none 0 0],.int .i64 (sz:Int),.int .i64 101])) Wf:=HFin.out (K.gu) (sz:Int) 101 (.slice none 0 0) Wf Cm.out ⟨none,0,rfl,ae _,.inl rfl⟩ hbw (by decide);clear hWf f0 pX BS hbx hbw r0 r1 r2 r3 r4 g0 g1 g2 g3 g4 p0 p1 p2 p3 p4
  simp [bodyPost,results,Tryz.results26,go_sem,y0,y1,y2,y3,y4]
  exact hfin
end T
end Go.Proofs.YtojoahlpgmnbnaaGreatDoor
