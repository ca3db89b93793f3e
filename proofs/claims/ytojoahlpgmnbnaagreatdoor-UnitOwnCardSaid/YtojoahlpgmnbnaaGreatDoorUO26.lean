/- What the claim needs of the texts TDecl, TDecl2. -/
import Derived.Test.YtojoahlpgmnbnaaGreatDoorUOOp
import Derived.Test.YtojoahlpgmnbnaaGreatDoorUO25
import Derived.Test.YtojoahlpgmnbnaaGreatDoorUO12
import Derived.Test.YtojoahlpgmnbnaaGreatDoorUO16
set_option maxRecDepth 20000
set_option maxHeartbeats 16000000
namespace Go.Proofs.YtojoahlpgmnbnaaGreatDoor
namespace T
open Go.RowKit
open Go.Lib hiding intOf
open U S L
open K (oQ kT tok xg)
theorem tV {L:List aZ} {size j:Nat} (h:decl L (8*L.length+10)=.bad j):kT L size=(K.gB,(tok L size j).f,101):=by
 unfold kT oQ
 rw [h]
theorem uK {L:List aZ} {size i:Nat} {p:Pt} (h:decl L (8*L.length+10)=.ok p i) (hi:i+bE L i<L.length):kT L size=(K.gB,(tok L size (i+bE L i)).f,101):=by
 unfold kT oQ
 rw [h]
 show (match (if i+bE L i<L.length then xg.bad (i+bE L i) else xg.part p) with|.bad j=>_|.part p=>_)=_
 rw [ay hi]
theorem zG {L:List aZ} {size i:Nat} {p:Pt} (h:decl L (8*L.length+10)=.ok p i) (hi:¬ i+bE L i<L.length):kT L size=if 40<deep p then (K.gB,0,22) else (p,0,0):=by
 unfold kT oQ
 rw [h]
 show (match (if i+bE L i<L.length then xg.bad (i+bE L i) else xg.part p) with|.bad j=>_|.part p=>_)=_
 rw [ai hi]
theorem Ci {L:List aZ} {i:Nat} {p:Pt} (h:decl L (8*L.length+10)=.ok p i) (hi:¬ i+bE L i<L.length):oQ L=.part p:=by
 unfold oQ
 rw [h]
 exact ai hi
theorem mI {L:List aZ} {size j:Nat} (h:j<L.length):(tok L size j).f=L[j].f:=by
 unfold K.tok
 rw [aC h];rfl
theorem qF {L:List aZ} {size j:Nat} (h:¬ j<L.length):(tok L size j).f=size:=by
 unfold K.tok
 rw [dh (by omega)];rfl
end T
namespace T
open Go.RowKit
open Go.Lib hiding intOf
open U S L
open K (kT rG wS)
open J (qg rT arg eF dH)
theorem TJ (L:List aZ) (n i:Nat) (hi:i≤L.length):vW L i (rX L n i):=by
 unfold rX
 refine (bU _ hi).next fun _ j _ _ hj=>((jw hj).next fun s k _ _ hk=>((bU _ hk).next fun _ m _ _ hm=>?_).toFw).toFw
 refine Fw.next (i:=m) ?_ fun ps o _ _ ho=>Fw.next (i:=o) ?_ fun rs q _ _ hq=>(((nk L n).block q hq).next fun b r _ _ hr=>iJ _ _ _ _ hr).toFw
 ·split
  ·rename_i h
   exact .ok (dZ _) (bR h) _
  ·exact yn L n n _ _ hm
 ·split
  ·exact .ok (ae _) ho _
  ·exact ((jy n _ ho).next fun x q _ _ hq=>Fw.ok (ae _) hq _).toFw
theorem Ml (L:List aZ) (n i:Nat) (hi:i≤L.length):vW L i (record L n i):=by
 unfold record
 exact (bU _ hi).next fun _ j _ _ hj=>((jw hj).next fun s k _ _ hk=>((bU _ hk).next fun _ m _ _ hm=>((bU _ hm).next fun _ o _ _ ho=>((ym L n n _ [] (kW L ho)).mono (Nat.le_add_right _ _)).next fun l q _ _ hq=>((bU _ hq).next fun _ r _ _ hr=>iJ _ _ _ _ hr).toFw).toFw).toFw).toFw
theorem iC {B:Nat} {a w:World} (h:Below B a w) (n:Nat):Below B a (w.drewN n):=⟨h.os,h.tape,h.output,h.size,h.block⟩
theorem Kg (s:ByteArray) (w:World) (hs:s.size≤600):Calls Tryz.prog 26 #[.string s] w (wS s w):=by
 have hsl:s.toList.length=s.size:=by rw [bu];simp
 have hwt:=fun p (h:K.oQ (fH (okB s) s.toList)=.part p)=>K.BS (by omega) h
 have hll:=K.Ff (okB s) s.toList
 have cS:=fun X=>Be s X (by omega)
 obtain ⟨L,hL0⟩:∃ L,fH (okB s) s.toList=L:=⟨_,rfl⟩;rw [hL0] at hll hwt cS;obtain ⟨sz,hsz⟩:∃ z,s.size=z:=⟨_,rfl⟩
 have hL1:L.length≤1000:=by omega
 have ZB:L.length≤1000000:=by omega
 have HFin:Hid (∀ (p:Pt) (at' er:Int) (qB:Value) (W:World),kT L sz=(p,at',er)→aT W (fun g=>w.heap.size≤g) p qB→Below w.heap.size w W→rT p≤100000000→wS s w (.returned (.tuple #[arg p qB,.int .i64 at',.int .i64 er])) W):=hid (fun p at' er qB W h1 h2 h3 h4=>⟨p,at',er,qB,by rw [hL0,hsz];exact h1,rfl,h2,h3,h4⟩);obtain ⟨op,hop⟩:∃ u,decl L (8*L.length+10)=u:=⟨_,rfl⟩;have D8:=hid hop;have HWt:=hid hwt;have HSZ:=hid hsz;obtain ⟨P,hP⟩:∃ P,wS s w=P:=⟨_,rfl⟩;rw [hP] at HFin ⊢;have HCS:=hid cS;obtain ⟨W1,hW1⟩:∃ X,w.alloc gB=X:=⟨_,rfl⟩
 have hb1:Below w.heap.size w W1:=by rw [← hW1];exact (aj _ w).alloc (ae _) _
 have jD:Hid (W1.heap[w.heap.size]?=some (.cells #[.string ⟨#[]⟩,.string ⟨#[]⟩,.int .i64 0,.int .i64 0,.slice none 0 0] 49 (0,0))):=hid (by rw [← hW1];exact aG w _);have HB1:=hid hb1;have HW1:=hid hW1;clear hop hwt hsz hsl hll cS hP hb1 hW1 hL0
 go_enter Tryz.func26,Tryz.ntmps26
 go_upto_region 1 with fail
 try rw [HW1.out]
 have c1:=HCS.out W1
 go_wp2_with fail
 refine c1.mono ?_;rintro e w2 ⟨v,rfl,⟨a,cap,rfl,hcap,hrow⟩,hb2⟩;obtain ⟨lv,hlv⟩:∃ u,Value.slice a L.length cap=u:=⟨_,rfl⟩;have Py:=hid hlv;have HB2:=hid (HB1.out.trans (hb2.mono HB1.out.size));have Bz:=hid ((hb2.block _ (af.1 jD.out).1).trans jD.out);have acG:Hid (∀ d,w2.heap.size≤d→Tk d L lv w2):=hid (fun d hd=>⟨a,cap,hlv.symm,hrow.imp id (fun ⟨g,off,h1,h2,h3,h4⟩=>⟨g,off,h1,by omega,h3,h4⟩)⟩);have Z8:Hid (∀ (d:Nat) (X:World),w2.heap.size≤d→(∀ k,k<w2.heap.size→X.heap[k]?=w2.heap[k]?)→w2.heap.size≤X.heap.size→Tk d L lv X):=hid (fun d X hd hX hz=>⟨a,cap,hlv.symm,hrow.imp id (fun ⟨g,off,h1,h2,h3,h4⟩=>⟨g,off,h1,by omega,by omega,fun j u hj=>by rw [iy (hX g h3)];exact h4 j u hj⟩)⟩);clear c1 hb2 hrow hlv
 go_upto_region 2 with fail
 obtain ⟨d,hd⟩:∃ d,w2.heap.size=d:=⟨_,rfl⟩;obtain ⟨W3,hW3⟩:∃ X,w2.alloc (.cells #[.slice a L.length cap,.int .i64 0,.bool false] 82)=X:=⟨_,rfl⟩
 have hb3:Below w2.heap.size w2 W3:=by rw [← hW3];exact (aj _ w2).alloc (ae _) _
 have Eh:Rd d lv 0 false W3:=by rw [← Py.out,← hW3,← hd];exact aG w2 _
 try rw [hW3]
 try rw [hd]
 have HZ3:Hid (w2.heap.size=d∧d<W3.heap.size):=hid ⟨hd,Eh.lt⟩;have HR3:=hid Eh;have HB3:=hid hb3;clear hW3 hd hb3 Eh
 go_upto_region 4 with fail
 obtain ⟨q,hq⟩:∃ q,W3.heap.size=q:=⟨_,rfl⟩;obtain ⟨W4,NM⟩:∃ X,W3.alloc gB=X:=⟨_,rfl⟩
 have hb4:Below W3.heap.size W3 W4:=by rw [← NM];exact (aj _ W3).alloc (ae _) _
 have hq4:W4.heap[q]?=some (.cells #[.string ⟨#[]⟩,.string ⟨#[]⟩,.int .i64 0,.int .i64 0,.slice none 0 0] 49 (0,0)):=by rw [← NM,← hq];exact aG W3 _
 try rw [NM]
 try rw [hq]
 have HQP:=hid hq4;have kH:Hid (w.heap.size<d∧d<q∧q<W4.heap.size):=hid ⟨by have h1:=(af.1 Bz.out).1;have h2:=HZ3.out;omega,by have:=HZ3.out;omega,(af.1 hq4).1⟩;have HR4:=hid (HR3.out.below hb4);have uR:Hid (Below w2.heap.size w2 W4):=hid (HB3.out.trans (hb4.mono HB3.out.size));have HT4:Hid (Tk d L lv W4):=hid ((acG.out d (by have:=HZ3.out;omega)).mv (Mv.of_below uR.out) (ae _));have JA:Hid (W4.heap[w.heap.size]?=_):=hid ((uR.out.block _ (af.1 Bz.out).1).trans Bz.out);have ZO:Hid (Below w.heap.size w W4):=hid (HB2.out.trans (uR.out.mono HB2.out.size));clear NM hq hb4 hq4 HR3 HB3 acG jD Bz HB1 HCS HW1;have mJ:Hid (Mv W4.heap.size d W4 W4):=hid (Mv.refl _ _ _);have c5:=iM d L lv 0 false eY W4 HR4.out (HT4.out.mv mJ.out (ae _));rw [show aU eY=⟨#[102,117,110,99]⟩ from rfl] at c5;obtain ⟨R1,lL⟩:∃ R,bG L eY 0=R:=⟨_,rfl⟩;rw [show (!false&&bG L eY 0)=R1 from lL] at c5;have HR1:=hid lL;clear lL
 cases R1
 focus
  skip
  go_wp2_with fail
  refine c5.mono ?_;intro x w5 h9;obtain ⟨rfl,dV⟩:=h9.went HR4.out;have mK:=hid (mJ.out.trans (dV.2.mono mJ.out.size));have uV:=hid dV.1;clear c5 h9 dV;have c6:=iM d L lv 0 false jg w5 uV.out (HT4.out.mv mK.out (ae _));rw [show aU jg=⟨#[118,97,114]⟩ from rfl] at c6;obtain ⟨R2,hR2⟩:∃ R,bG L jg 0=R:=⟨_,rfl⟩;rw [show (!false&&bG L jg 0)=R2 from hR2] at c6;have HR2:=hid hR2;clear hR2
  cases R2
  focus
   skip
   go_wp2_with fail
   refine c6.mono ?_;intro x w6 h9;obtain ⟨rfl,dV⟩:=h9.went uV.out;have nW:=hid (mK.out.trans (dV.2.mono mK.out.size));have Ad:=hid dV.1;clear c6 h9 dV;have c7:=iM d L lv 0 false gY w6 Ad.out (HT4.out.mv nW.out (ae _));rw [show aU gY=⟨#[116,121,112,101]⟩ from rfl] at c7;obtain ⟨R3,Eh⟩:∃ R,bG L gY 0=R:=⟨_,rfl⟩;rw [show (!false&&bG L gY 0)=R3 from Eh] at c7;have HR3:=hid Eh;clear Eh
   cases R3
   focus
    skip
    have P6:Hid (op=.bad 0):=hid (by
     rw [← D8.out]
     unfold decl
     rw [ai (by rw [HR1.out];decide),ai (by rw [HR2.out];decide),ai (by rw [HR3.out];decide)])
    go_wp2_with fail
    refine c7.mono ?_;intro x w7 h9;obtain ⟨rfl,dV⟩:=h9.went Ad.out;have iN:=hid (nW.out.trans (dV.2.mono nW.out.size));have sw:=hid dV.1;clear c7 h9 dV;have PT:Hid (op.at≤L.length):=hid (by rw [P6.out];exact aL _);have k2:=sw.out.c2;have f2:=sw.out.f2;obtain ⟨WT,Bp⟩:∃ W,w7.setCell ⟨d,2,none⟩ (.bool true)=W:=⟨_,rfl⟩
    have zI:∀ g,g≠d→WT.heap[g]?=w7.heap[g]?:=fun g hg=>by rw [← Bp];exact ak _ _ _ _ hg
    have hTs:WT.heap.size=w7.heap.size:=by rw [← Bp];simp
    have Pp:Hid (WT.heap[q]?=some (.cells #[.string ⟨#[]⟩,.string ⟨#[]⟩,.int .i64 0,.int .i64 0,.slice none 0 0] 49 (0,0))):=hid ((zI q (by have:=kH.out;omega)).trans ((iN.out.block q kH.out.2.2 (by have:=kH.out;omega)).trans HQP.out));have ZC:Hid (Rd d lv op.at op.aA WT):=hid (by rw [P6.out,← Bp];exact sw.out.set2 true);have Ij:Hid (Mv q d W4 WT):=hid ((iN.out.mono (by have:=kH.out;omega)).trans ⟨by rw [← Bp];rfl,by rw [← Bp];rfl,by rw [← Bp];rfl,by omega,fun k hk hd=>zI k hd⟩);have M0:Hid (Tk d L lv WT):=hid (Z8.out d WT (by have:=HZ3.out;omega) (fun k hk=>(Ij.out.block k (by have:=kH.out;have:=HZ3.out;omega) (by have:=HZ3.out;omega)).trans (uR.out.block k hk)) (aJ uR.out.size Ij.out.size));have Er:Hid (∀ p j,op=.ok p j→(.agg #[.string ⟨#[]⟩,.string ⟨#[]⟩,.int .i64 0,.int .i64 0,.slice none 0 0]:Value)=.agg (five p (.slice none 0 0)).toArray∧aT WT (fun g=>q<g) p (.slice none 0 0)):=hid (fun p j h=>by rw [P6.out] at h;cases h);clear zI hTs
    go_upto_region 10 with fail
    try rw [Bp]
    clear k2 f2 Bp;have cse:=nP d L lv op.at op.aA WT ZC.out M0.out PT.out ZB;obtain ⟨k0,hk0⟩:∃ u,op.at+(if op.aA then 0 else bE L op.at)=u:=⟨_,rfl⟩;rw [hk0] at cse;obtain ⟨RS,TK⟩:∃ R,decide (0<(if op.aA then 0 else bE L op.at))=R:=⟨_,rfl⟩;rw [TK] at cse;have IV:=hid hk0;clear TK hk0
    go_wp2_with fail
    refine cse.mono ?_;rintro x w8 ⟨rfl,hw8⟩;have P5:q<WT.heap.size:=(af.1 Pp.out).1;have yt:w8.heap[q]?=_:=(hw8.2.block q P5 (by have:=kH.out;omega)).trans Pp.out;have yu:w8.heap[w.heap.size]?=some (.cells #[.string ⟨#[]⟩,.string ⟨#[]⟩,.int .i64 0,.int .i64 0,.slice none 0 0] 49 (0,0)):=(hw8.2.block _ (by have:=kH.out;omega) (by have:=kH.out;omega)).trans ((Ij.out.block _ (by have:=kH.out;omega) (by have:=kH.out;omega)).trans JA.out);have qN:Hid (Below w.heap.size w w8):=hid ((ZO.out.trans ((Ij.out.mono (by have:=kH.out;omega)).below (by have:=kH.out;omega))).trans ((hw8.2.mono (by have:=kH.out;omega)).below (by have:=kH.out;omega)));have Mm:Hid (∀ p j,op=.ok p j→(.agg #[.string ⟨#[]⟩,.string ⟨#[]⟩,.int .i64 0,.int .i64 0,.slice none 0 0]:Value)=.agg (five p (.slice none 0 0)).toArray∧aT w8 (fun g=>q<g) p (.slice none 0 0)):=hid (fun p j h=>⟨(Er.out p j h).1,(Er.out p j h).2.later (fun g hg hgl=>hw8.2.block g hgl (by have:=kH.out;omega)) (fun _ hg=>hg)⟩);have Eb:=hid yt;have xm:=hid yu;have tY:=hid hw8.1;have ZD:Hid (Tk d L lv w8):=hid (M0.out.mv hw8.2 (ae _));obtain ⟨⟨p0,p1,p2,p3,p4⟩,-⟩:=aF yt;obtain ⟨⟨r0,r1,r2,r3,r4⟩,gz⟩:=aF yu;have g0:=gz 0;have g1:=gz 1;have g2:=gz 2;have g3:=gz 3;have g4:=gz 4;have c0:=tY.out.c0;have c1:=tY.out.c1;have c2:=tY.out.c2;rw [← Py.out] at c0;obtain ⟨ln,hln⟩:∃ u,L.length=u:=⟨_,rfl⟩;rw [hln] at c0;have TY:=hid hln;have hsz':=HSZ.out;clear cse hw8 yt yu gz P5
    by_cases hlt:k0<ln
    ·obtain ⟨g,off,cap2,hlv2,hgd,t0,t1,t2,t3⟩:=lI (i:=k0) ZD.out (by omega)
     rw [← Py.out] at hlv2
     injection hlv2 with i1 i2 i3
     subst i1;subst i3;have TM:L[k0].f=(K.tok L sz k0).f:=(mI (by omega)).symm;rw [TM] at t2;obtain ⟨ff,BL⟩:∃ u,(K.tok L sz k0).f=u:=⟨_,rfl⟩;rw [BL] at t2;have HFF:=hid BL
     have hii:(k0:Int)<(ln:Int):=by omega
     have Pq:(0:Int)≤(k0:Int):=by omega
     have TN:kT L sz=(K.gB,ff,101):=by
      have hk0:=IV.out;rw [← BL]
      cases fw:op with
      | bad j =>
       rw [fw] at hk0;have hk0:j=k0:=hk0;rw [← hk0]
       exact tV (D8.out.trans fw)
      | ok p j =>
       rw [fw] at hk0;have hk0:j+bE L j=k0:=hk0;rw [← hk0]
       exact uK (D8.out.trans fw) (by omega)
     have BV:=hid TN;clear TN TM t0 t1 t3 BL hln hgd
     cases fw:op.aA
     all_goals
      rw [fw] at c2;clear fw
      go_upto_region 11 with fail
      go_quiet (fail)
      go_upto_region 13 with fail
      go_quiet (fail)
      go_upto_region 14 with fail
      go_quiet (fail)
      go_wp2_with fail
      generalize hX:World.drewN w8 _=X;obtain ⟨Wf,hWf,f0,pP,BF⟩:=gV (W:=X) (a':=.string ⟨#[]⟩) (b':=.string ⟨#[]⟩) (c':=.int .i64 0) (e':=.int .i64 0) (f':=.slice none 0 0) (by rw [← hX];exact xm.out);rw [hWf];obtain ⟨⟨y0,y1,y2,y3,y4⟩,_⟩:=aF f0;have hbx:Below w.heap.size w X:=(by rw [← hX];exact iC qN.out _)
      have hbw:Below w.heap.size w Wf:=by
       rw [← hWf]
       exact (((((hbx.setCell (p:=⟨w.heap.size,0,none⟩) (ae _) _).setCell (p:=⟨w.heap.size,1,none⟩) (ae _) _).setCell (p:=⟨w.heap.size,2,none⟩) (ae _) _).setCell (p:=⟨w.heap.size,3,none⟩) (ae _) _).setCell (p:=⟨w.heap.size,4,none⟩) (ae _) _)
      have hfin:P (.returned (.tuple #[.agg #[.string ⟨#[]⟩,.string ⟨#[]⟩,.int .i64 0,.int .i64 0,.slice none 0 0],.int .i64 ff,.int .i64 101])) Wf:=HFin.out (K.gB) ff 101 (.slice none 0 0) Wf BV.out ⟨none,0,rfl,ae _,.inl rfl⟩ hbw (by decide);clear hWf f0 pP BF hbx hbw r0 r1 r2 r3 r4 g0 g1 g2 g3 g4 p0 p1 p2 p3 p4
      simp [bodyPost,results,Tryz.results26,go_sem,y0,y1,y2,y3,y4]
      exact hfin
    cases fw:op.aA
    ·rw [fw] at c2
     have hok:=jG fw;obtain ⟨pp,GR⟩:∃ u,op.pt=u:=⟨_,rfl⟩;rw [GR] at hok
     have Mo:¬ op.at+bE L op.at<L.length:=by
      have h:=IV.out;rw [fw,ai (by decide)] at h
      omega
     have dV:=HWt.out pp (Ci (D8.out.trans hok) Mo);have hdp:=zG (size:=sz) (D8.out.trans hok) Mo;obtain ⟨v1,v2⟩:=Mm.out pp op.at hok;obtain ⟨dp,yw⟩:∃ u,deep pp=u:=⟨_,rfl⟩
     have cD:∀ X,Below w8.heap.size w8 X→Calls Tryz.prog 45 #[.agg #[.string ⟨#[]⟩,.string ⟨#[]⟩,.int .i64 0,.int .i64 0,.slice none 0 0]] X fun e X'=>e=.returned (.int .i64 dp)∧Below X.heap.size X X':=fun X hX=>by
      rw [show (.agg #[.string ⟨#[]⟩,.string ⟨#[]⟩,.int .i64 0,.int .i64 0,.slice none 0 0]:Value)=arg pp (.slice none 0 0) from v1,← yw]
      exact qg pp _ _ X (dH v2 hX) (by omega)
     rw [yw] at hdp;have KV:=hid v1;have GY:=hid v2;have Nk:=hid dV;have BV:=hid hdp;clear fw hln hok GR Mo dV hdp v1 v2 yw
     go_upto_region 11 with fail
     go_quiet (fail)
     go_wp2_with fail
     refine (cD _ (iC (aj _ _) _)).mono ?_;rintro e9 w9 ⟨rfl,nV⟩;have uL:Below w8.heap.size w8 w9:=(iC (aj _ w8) _).trans nV;have Ec:=(uL.block q (af.1 Eb.out).1).trans Eb.out;have yx:=(uL.block _ (af.1 xm.out).1).trans xm.out;have yz:=hid uL;have Ed:=hid yx;obtain ⟨⟨p0,p1,p2,p3,p4⟩,-⟩:=aF Ec;obtain ⟨⟨r0,r1,r2,r3,r4⟩,gz⟩:=aF yx;have g0:=gz 0;have g1:=gz 1;have g2:=gz 2;have g3:=gz 3;have g4:=gz 4;clear cD nV uL Ec yx gz
     by_cases Ee:40<dp
     ·go_wp2_with fail
      obtain ⟨Wf,hWf,f0,pP,BF⟩:=gV (W:=w9) (a':=.string ⟨#[]⟩) (b':=.string ⟨#[]⟩) (c':=.int .i64 0) (e':=.int .i64 0) (f':=.slice none 0 0) Ed.out;rw [hWf];obtain ⟨⟨y0,y1,y2,y3,y4⟩,_⟩:=aF f0;have hbx:Below w.heap.size w w9:=(qN.out.trans (yz.out.mono qN.out.size))
      have hbw:Below w.heap.size w Wf:=by
       rw [← hWf]
       exact (((((hbx.setCell (p:=⟨w.heap.size,0,none⟩) (ae _) _).setCell (p:=⟨w.heap.size,1,none⟩) (ae _) _).setCell (p:=⟨w.heap.size,2,none⟩) (ae _) _).setCell (p:=⟨w.heap.size,3,none⟩) (ae _) _).setCell (p:=⟨w.heap.size,4,none⟩) (ae _) _)
      have hfin:P (.returned (.tuple #[.agg #[.string ⟨#[]⟩,.string ⟨#[]⟩,.int .i64 0,.int .i64 0,.slice none 0 0],.int .i64 0,.int .i64 22])) Wf:=HFin.out (K.gB) 0 22 (.slice none 0 0) Wf (by rw [BV.out,ay Ee]) ⟨none,0,rfl,ae _,.inl rfl⟩ hbw (by decide);clear hWf f0 pP BF hbx hbw r0 r1 r2 r3 r4 g0 g1 g2 g3 g4 p0 p1 p2 p3 p4
      simp [bodyPost,results,Tryz.results26,go_sem,y0,y1,y2,y3,y4]
      exact hfin
     ·go_wp2_with fail
      obtain ⟨Wf,hWf,f0,pP,BF⟩:=gV (W:=w9) (a':=.string ⟨#[]⟩) (b':=.string ⟨#[]⟩) (c':=.int .i64 0) (e':=.int .i64 0) (f':=.slice none 0 0) Ed.out;rw [hWf];obtain ⟨⟨y0,y1,y2,y3,y4⟩,_⟩:=aF f0;have hbx:Below w.heap.size w w9:=(qN.out.trans (yz.out.mono qN.out.size))
      have hbw:Below w.heap.size w Wf:=by
       rw [← hWf]
       exact (((((hbx.setCell (p:=⟨w.heap.size,0,none⟩) (ae _) _).setCell (p:=⟨w.heap.size,1,none⟩) (ae _) _).setCell (p:=⟨w.heap.size,2,none⟩) (ae _) _).setCell (p:=⟨w.heap.size,3,none⟩) (ae _) _).setCell (p:=⟨w.heap.size,4,none⟩) (ae _) _)
      have hfin:P (.returned (.tuple #[.agg #[.string ⟨#[]⟩,.string ⟨#[]⟩,.int .i64 0,.int .i64 0,.slice none 0 0],.int .i64 0,.int .i64 0])) Wf:=by have h:=HFin.out pp 0 0 (.slice none 0 0) Wf (by rw [BV.out,ai Ee]) (aT.later (fun g hg _=>(pP g (by have:=kH.out;omega)).trans (yz.out.block g hg.2)) (fun g hg=>by show w.heap.size≤g;have:=kH.out;omega) _ _ (aT.live _ _ GY.out)) hbw Nk.out;rw [show arg pp (.slice none 0 0)=(.agg #[.string ⟨#[]⟩,.string ⟨#[]⟩,.int .i64 0,.int .i64 0,.slice none 0 0]:Value) from KV.out.symm] at h;exact h
      clear hWf f0 pP BF hbx hbw r0 r1 r2 r3 r4 g0 g1 g2 g3 g4 p0 p1 p2 p3 p4
      simp [bodyPost,results,Tryz.results26,go_sem,y0,y1,y2,y3,y4]
      exact hfin
   rotate_left
   focus
    skip
    have P6:Hid (op=record L (8*L.length+10) 0):=hid (by
     rw [← D8.out]
     unfold decl
     rw [ai (by rw [HR1.out];decide),ai (by rw [HR2.out];decide),ay HR3.out])
    go_wp2_with fail
    refine c7.mono ?_;intro x w7 h9;obtain ⟨rfl,dV⟩:=h9.went Ad.out;have iN:=hid (nW.out.trans (dV.2.mono nW.out.size));have sw:=hid dV.1;clear c7 h9 dV;have cc:=Mi d L lv ZB (8*L.length+10) 0 false w7 sw.out (HT4.out.mv iN.out (ae _)) (aL _) (fun _=>by omega);rw [aW,← P6.out] at cc;have PT:Hid (op.at≤L.length):=hid (by rw [P6.out];exact (Ml L _ 0 (aL _)).le)
    go_wp2_with fail
    refine cc.mono ?_;rintro x w9 ⟨v,rfl,⟨kx,tx,fx,ex,ax,nx,cx,rfl,hnx,FY⟩,dV⟩;have kF:=hid (iN.out.trans (dV.2.mono iN.out.size));have Av:w9.heap[q]?=_:=(kF.out.block q kH.out.2.2 (by have:=kH.out;omega)).trans HQP.out;obtain ⟨⟨r0,r1,r2,r3,r4⟩,gz⟩:=aF Av;have g0:=gz 0;have g1:=gz 1;have g2:=gz 2;have g3:=gz 3;have g4:=gz 4;obtain ⟨WT,Bp,Xi,zI,hTs⟩:=gV (a':=.string kx) (b':=.string tx) (c':=.int .i64 fx) (e':=.int .i64 ex) (f':=.slice ax nx cx) Av;have Pp:Hid (WT.heap[q]?=some (.cells #[.string kx,.string tx,.int .i64 fx,.int .i64 ex,.slice ax nx cx] 49 (0,0))):=hid Xi;have ZC:Hid (Rd d lv op.at op.aA WT):=hid ((zI d (by have:=kH.out;omega)).trans dV.1);have Ij:Hid (Mv q d W4 WT):=hid ((kF.out.mono (by have:=kH.out;omega)).trans ⟨by rw [← Bp];rfl,by rw [← Bp];rfl,by rw [← Bp];rfl,by omega,fun k hk _=>zI k (by omega)⟩);have M0:Hid (Tk d L lv WT):=hid (Z8.out d WT (by have:=HZ3.out;omega) (fun k hk=>(Ij.out.block k (by have:=kH.out;have:=HZ3.out;omega) (by have:=HZ3.out;omega)).trans (uR.out.block k hk)) (aJ uR.out.size Ij.out.size));have Er:Hid (∀ p j,op=.ok p j→(.agg #[.string kx,.string tx,.int .i64 fx,.int .i64 ex,.slice ax nx cx]:Value)=.agg (five p (.slice ax nx cx)).toArray∧aT WT (fun g=>q<g) p (.slice ax nx cx)):=hid (fun p j h=>⟨(FY p j h).1,(FY p j h).2.later (fun g hg _=>zI g (by have:=iN.out.size;have:=kH.out;omega)) (fun g hg=>by have:=iN.out.size;have:=kH.out;omega)⟩);clear cc dV Av gz Xi zI hTs FY
    go_upto_region 10 with fail
    try rw [Bp]
    clear r0 r1 r2 r3 r4 g0 g1 g2 g3 g4 Bp;have cse:=nP d L lv op.at op.aA WT ZC.out M0.out PT.out ZB;obtain ⟨k0,hk0⟩:∃ u,op.at+(if op.aA then 0 else bE L op.at)=u:=⟨_,rfl⟩;rw [hk0] at cse;obtain ⟨RS,TK⟩:∃ R,decide (0<(if op.aA then 0 else bE L op.at))=R:=⟨_,rfl⟩;rw [TK] at cse;have IV:=hid hk0;clear TK hk0
    go_wp2_with fail
    refine cse.mono ?_;rintro x w8 ⟨rfl,hw8⟩;have P5:q<WT.heap.size:=(af.1 Pp.out).1;have yt:w8.heap[q]?=_:=(hw8.2.block q P5 (by have:=kH.out;omega)).trans Pp.out;have yu:w8.heap[w.heap.size]?=some (.cells #[.string ⟨#[]⟩,.string ⟨#[]⟩,.int .i64 0,.int .i64 0,.slice none 0 0] 49 (0,0)):=(hw8.2.block _ (by have:=kH.out;omega) (by have:=kH.out;omega)).trans ((Ij.out.block _ (by have:=kH.out;omega) (by have:=kH.out;omega)).trans JA.out);have qN:Hid (Below w.heap.size w w8):=hid ((ZO.out.trans ((Ij.out.mono (by have:=kH.out;omega)).below (by have:=kH.out;omega))).trans ((hw8.2.mono (by have:=kH.out;omega)).below (by have:=kH.out;omega)));have Mm:Hid (∀ p j,op=.ok p j→(.agg #[.string kx,.string tx,.int .i64 fx,.int .i64 ex,.slice ax nx cx]:Value)=.agg (five p (.slice ax nx cx)).toArray∧aT w8 (fun g=>q<g) p (.slice ax nx cx)):=hid (fun p j h=>⟨(Er.out p j h).1,(Er.out p j h).2.later (fun g hg hgl=>hw8.2.block g hgl (by have:=kH.out;omega)) (fun _ hg=>hg)⟩);have Eb:=hid yt;have xm:=hid yu;have tY:=hid hw8.1;have ZD:Hid (Tk d L lv w8):=hid (M0.out.mv hw8.2 (ae _));obtain ⟨⟨p0,p1,p2,p3,p4⟩,-⟩:=aF yt;obtain ⟨⟨r0,r1,r2,r3,r4⟩,gz⟩:=aF yu;have g0:=gz 0;have g1:=gz 1;have g2:=gz 2;have g3:=gz 3;have g4:=gz 4;have c0:=tY.out.c0;have c1:=tY.out.c1;have c2:=tY.out.c2;rw [← Py.out] at c0;obtain ⟨ln,hln⟩:∃ u,L.length=u:=⟨_,rfl⟩;rw [hln] at c0;have TY:=hid hln;have hsz':=HSZ.out;clear cse hw8 yt yu gz P5
    by_cases hlt:k0<ln
    ·obtain ⟨g,off,cap2,hlv2,hgd,t0,t1,t2,t3⟩:=lI (i:=k0) ZD.out (by omega)
     rw [← Py.out] at hlv2
     injection hlv2 with i1 i2 i3
     subst i1;subst i3;have TM:L[k0].f=(K.tok L sz k0).f:=(mI (by omega)).symm;rw [TM] at t2;obtain ⟨ff,BL⟩:∃ u,(K.tok L sz k0).f=u:=⟨_,rfl⟩;rw [BL] at t2;have HFF:=hid BL
     have hii:(k0:Int)<(ln:Int):=by omega
     have Pq:(0:Int)≤(k0:Int):=by omega
     have TN:kT L sz=(K.gB,ff,101):=by
      have hk0:=IV.out;rw [← BL]
      cases fw:op with
      | bad j =>
       rw [fw] at hk0;have hk0:j=k0:=hk0;rw [← hk0]
       exact tV (D8.out.trans fw)
      | ok p j =>
       rw [fw] at hk0;have hk0:j+bE L j=k0:=hk0;rw [← hk0]
       exact uK (D8.out.trans fw) (by omega)
     have BV:=hid TN;clear TN TM t0 t1 t3 BL hln hgd
     cases fw:op.aA
     all_goals
      rw [fw] at c2;clear fw
      go_upto_region 11 with fail
      go_quiet (fail)
      go_upto_region 13 with fail
      go_quiet (fail)
      go_upto_region 14 with fail
      go_quiet (fail)
      go_wp2_with fail
      generalize hX:World.drewN w8 _=X;obtain ⟨Wf,hWf,f0,pP,BF⟩:=gV (W:=X) (a':=.string ⟨#[]⟩) (b':=.string ⟨#[]⟩) (c':=.int .i64 0) (e':=.int .i64 0) (f':=.slice none 0 0) (by rw [← hX];exact xm.out);rw [hWf];obtain ⟨⟨y0,y1,y2,y3,y4⟩,_⟩:=aF f0;have hbx:Below w.heap.size w X:=(by rw [← hX];exact iC qN.out _)
      have hbw:Below w.heap.size w Wf:=by
       rw [← hWf]
       exact (((((hbx.setCell (p:=⟨w.heap.size,0,none⟩) (ae _) _).setCell (p:=⟨w.heap.size,1,none⟩) (ae _) _).setCell (p:=⟨w.heap.size,2,none⟩) (ae _) _).setCell (p:=⟨w.heap.size,3,none⟩) (ae _) _).setCell (p:=⟨w.heap.size,4,none⟩) (ae _) _)
      have hfin:P (.returned (.tuple #[.agg #[.string ⟨#[]⟩,.string ⟨#[]⟩,.int .i64 0,.int .i64 0,.slice none 0 0],.int .i64 ff,.int .i64 101])) Wf:=HFin.out (K.gB) ff 101 (.slice none 0 0) Wf BV.out ⟨none,0,rfl,ae _,.inl rfl⟩ hbw (by decide);clear hWf f0 pP BF hbx hbw r0 r1 r2 r3 r4 g0 g1 g2 g3 g4 p0 p1 p2 p3 p4
      simp [bodyPost,results,Tryz.results26,go_sem,y0,y1,y2,y3,y4]
      exact hfin
    cases fw:op.aA
    ·rw [fw] at c2
     have hok:=jG fw;obtain ⟨pp,GR⟩:∃ u,op.pt=u:=⟨_,rfl⟩;rw [GR] at hok
     have Mo:¬ op.at+bE L op.at<L.length:=by
      have h:=IV.out;rw [fw,ai (by decide)] at h
      omega
     have dV:=HWt.out pp (Ci (D8.out.trans hok) Mo);have hdp:=zG (size:=sz) (D8.out.trans hok) Mo;obtain ⟨v1,v2⟩:=Mm.out pp op.at hok;obtain ⟨dp,yw⟩:∃ u,deep pp=u:=⟨_,rfl⟩
     have cD:∀ X,Below w8.heap.size w8 X→Calls Tryz.prog 45 #[.agg #[.string kx,.string tx,.int .i64 fx,.int .i64 ex,.slice ax nx cx]] X fun e X'=>e=.returned (.int .i64 dp)∧Below X.heap.size X X':=fun X hX=>by
      rw [show (.agg #[.string kx,.string tx,.int .i64 fx,.int .i64 ex,.slice ax nx cx]:Value)=arg pp (.slice ax nx cx) from v1,← yw]
      exact qg pp _ _ X (dH v2 hX) (by omega)
     rw [yw] at hdp;have KV:=hid v1;have GY:=hid v2;have Nk:=hid dV;have BV:=hid hdp;clear fw hln hok GR Mo dV hdp v1 v2 yw
     go_upto_region 11 with fail
     go_quiet (fail)
     go_wp2_with fail
     refine (cD _ (iC (aj _ _) _)).mono ?_;rintro e9 w9 ⟨rfl,nV⟩;have uL:Below w8.heap.size w8 w9:=(iC (aj _ w8) _).trans nV;have Ec:=(uL.block q (af.1 Eb.out).1).trans Eb.out;have yx:=(uL.block _ (af.1 xm.out).1).trans xm.out;have yz:=hid uL;have Ed:=hid yx;obtain ⟨⟨p0,p1,p2,p3,p4⟩,-⟩:=aF Ec;obtain ⟨⟨r0,r1,r2,r3,r4⟩,gz⟩:=aF yx;have g0:=gz 0;have g1:=gz 1;have g2:=gz 2;have g3:=gz 3;have g4:=gz 4;clear cD nV uL Ec yx gz
     by_cases Ee:40<dp
     ·go_wp2_with fail
      obtain ⟨Wf,hWf,f0,pP,BF⟩:=gV (W:=w9) (a':=.string ⟨#[]⟩) (b':=.string ⟨#[]⟩) (c':=.int .i64 0) (e':=.int .i64 0) (f':=.slice none 0 0) Ed.out;rw [hWf];obtain ⟨⟨y0,y1,y2,y3,y4⟩,_⟩:=aF f0;have hbx:Below w.heap.size w w9:=(qN.out.trans (yz.out.mono qN.out.size))
      have hbw:Below w.heap.size w Wf:=by
       rw [← hWf]
       exact (((((hbx.setCell (p:=⟨w.heap.size,0,none⟩) (ae _) _).setCell (p:=⟨w.heap.size,1,none⟩) (ae _) _).setCell (p:=⟨w.heap.size,2,none⟩) (ae _) _).setCell (p:=⟨w.heap.size,3,none⟩) (ae _) _).setCell (p:=⟨w.heap.size,4,none⟩) (ae _) _)
      have hfin:P (.returned (.tuple #[.agg #[.string ⟨#[]⟩,.string ⟨#[]⟩,.int .i64 0,.int .i64 0,.slice none 0 0],.int .i64 0,.int .i64 22])) Wf:=HFin.out (K.gB) 0 22 (.slice none 0 0) Wf (by rw [BV.out,ay Ee]) ⟨none,0,rfl,ae _,.inl rfl⟩ hbw (by decide);clear hWf f0 pP BF hbx hbw r0 r1 r2 r3 r4 g0 g1 g2 g3 g4 p0 p1 p2 p3 p4
      simp [bodyPost,results,Tryz.results26,go_sem,y0,y1,y2,y3,y4]
      exact hfin
     ·go_wp2_with fail
      obtain ⟨Wf,hWf,f0,pP,BF⟩:=gV (W:=w9) (a':=.string kx) (b':=.string tx) (c':=.int .i64 fx) (e':=.int .i64 ex) (f':=.slice ax nx cx) Ed.out;rw [hWf];obtain ⟨⟨y0,y1,y2,y3,y4⟩,_⟩:=aF f0;have hbx:Below w.heap.size w w9:=(qN.out.trans (yz.out.mono qN.out.size))
      have hbw:Below w.heap.size w Wf:=by
       rw [← hWf]
       exact (((((hbx.setCell (p:=⟨w.heap.size,0,none⟩) (ae _) _).setCell (p:=⟨w.heap.size,1,none⟩) (ae _) _).setCell (p:=⟨w.heap.size,2,none⟩) (ae _) _).setCell (p:=⟨w.heap.size,3,none⟩) (ae _) _).setCell (p:=⟨w.heap.size,4,none⟩) (ae _) _)
      have hfin:P (.returned (.tuple #[.agg #[.string kx,.string tx,.int .i64 fx,.int .i64 ex,.slice ax nx cx],.int .i64 0,.int .i64 0])) Wf:=by have h:=HFin.out pp 0 0 (.slice ax nx cx) Wf (by rw [BV.out,ai Ee]) (aT.later (fun g hg _=>(pP g (by have:=kH.out;omega)).trans (yz.out.block g hg.2)) (fun g hg=>by show w.heap.size≤g;have:=kH.out;omega) _ _ (aT.live _ _ GY.out)) hbw Nk.out;rw [show arg pp (.slice ax nx cx)=(.agg #[.string kx,.string tx,.int .i64 fx,.int .i64 ex,.slice ax nx cx]:Value) from KV.out.symm] at h;exact h
      clear hWf f0 pP BF hbx hbw r0 r1 r2 r3 r4 g0 g1 g2 g3 g4 p0 p1 p2 p3 p4
      simp [bodyPost,results,Tryz.results26,go_sem,y0,y1,y2,y3,y4]
      exact hfin
   rotate_left
  rotate_left 2
  focus
   skip
   have P6:Hid (op=iX L (8*L.length+10) 0):=hid (by
    rw [← D8.out]
    unfold decl
    rw [ai (by rw [HR1.out];decide),ay HR2.out])
   go_wp2_with fail
   refine c6.mono ?_;intro x w6 h9;obtain ⟨rfl,dV⟩:=h9.went uV.out;have nW:=hid (mK.out.trans (dV.2.mono mK.out.size));have Ad:=hid dV.1;clear c6 h9 dV;have cc:=zt d L lv ZB (8*L.length+10) 0 false w6 Ad.out (HT4.out.mv nW.out (ae _)) (aL _) (fun _=>by omega);rw [aW,← P6.out] at cc;have PT:Hid (op.at≤L.length):=hid (by rw [P6.out];exact (zo _ (aL _)).le)
   go_wp2_with fail
   refine cc.mono ?_;rintro x w9 ⟨v,rfl,⟨kx,tx,fx,ex,ax,nx,cx,rfl,hnx,FY⟩,dV⟩;have kF:=hid (nW.out.trans (dV.2.mono nW.out.size));have Av:w9.heap[q]?=_:=(kF.out.block q kH.out.2.2 (by have:=kH.out;omega)).trans HQP.out;obtain ⟨⟨r0,r1,r2,r3,r4⟩,gz⟩:=aF Av;have g0:=gz 0;have g1:=gz 1;have g2:=gz 2;have g3:=gz 3;have g4:=gz 4;obtain ⟨WT,Bp,Xi,zI,hTs⟩:=gV (a':=.string kx) (b':=.string tx) (c':=.int .i64 fx) (e':=.int .i64 ex) (f':=.slice ax nx cx) Av;have Pp:Hid (WT.heap[q]?=some (.cells #[.string kx,.string tx,.int .i64 fx,.int .i64 ex,.slice ax nx cx] 49 (0,0))):=hid Xi;have ZC:Hid (Rd d lv op.at op.aA WT):=hid ((zI d (by have:=kH.out;omega)).trans dV.1);have Ij:Hid (Mv q d W4 WT):=hid ((kF.out.mono (by have:=kH.out;omega)).trans ⟨by rw [← Bp];rfl,by rw [← Bp];rfl,by rw [← Bp];rfl,by omega,fun k hk _=>zI k (by omega)⟩);have M0:Hid (Tk d L lv WT):=hid (Z8.out d WT (by have:=HZ3.out;omega) (fun k hk=>(Ij.out.block k (by have:=kH.out;have:=HZ3.out;omega) (by have:=HZ3.out;omega)).trans (uR.out.block k hk)) (aJ uR.out.size Ij.out.size));have Er:Hid (∀ p j,op=.ok p j→(.agg #[.string kx,.string tx,.int .i64 fx,.int .i64 ex,.slice ax nx cx]:Value)=.agg (five p (.slice ax nx cx)).toArray∧aT WT (fun g=>q<g) p (.slice ax nx cx)):=hid (fun p j h=>⟨(FY p j h).1,(FY p j h).2.later (fun g hg _=>zI g (by have:=nW.out.size;have:=kH.out;omega)) (fun g hg=>by have:=nW.out.size;have:=kH.out;omega)⟩);clear cc dV Av gz Xi zI hTs FY
   go_upto_region 10 with fail
   try rw [Bp]
   clear r0 r1 r2 r3 r4 g0 g1 g2 g3 g4 Bp;have cse:=nP d L lv op.at op.aA WT ZC.out M0.out PT.out ZB;obtain ⟨k0,hk0⟩:∃ u,op.at+(if op.aA then 0 else bE L op.at)=u:=⟨_,rfl⟩;rw [hk0] at cse;obtain ⟨RS,TK⟩:∃ R,decide (0<(if op.aA then 0 else bE L op.at))=R:=⟨_,rfl⟩;rw [TK] at cse;have IV:=hid hk0;clear TK hk0
   go_wp2_with fail
   refine cse.mono ?_;rintro x w8 ⟨rfl,hw8⟩;have P5:q<WT.heap.size:=(af.1 Pp.out).1;have yt:w8.heap[q]?=_:=(hw8.2.block q P5 (by have:=kH.out;omega)).trans Pp.out;have yu:w8.heap[w.heap.size]?=some (.cells #[.string ⟨#[]⟩,.string ⟨#[]⟩,.int .i64 0,.int .i64 0,.slice none 0 0] 49 (0,0)):=(hw8.2.block _ (by have:=kH.out;omega) (by have:=kH.out;omega)).trans ((Ij.out.block _ (by have:=kH.out;omega) (by have:=kH.out;omega)).trans JA.out);have qN:Hid (Below w.heap.size w w8):=hid ((ZO.out.trans ((Ij.out.mono (by have:=kH.out;omega)).below (by have:=kH.out;omega))).trans ((hw8.2.mono (by have:=kH.out;omega)).below (by have:=kH.out;omega)));have Mm:Hid (∀ p j,op=.ok p j→(.agg #[.string kx,.string tx,.int .i64 fx,.int .i64 ex,.slice ax nx cx]:Value)=.agg (five p (.slice ax nx cx)).toArray∧aT w8 (fun g=>q<g) p (.slice ax nx cx)):=hid (fun p j h=>⟨(Er.out p j h).1,(Er.out p j h).2.later (fun g hg hgl=>hw8.2.block g hgl (by have:=kH.out;omega)) (fun _ hg=>hg)⟩);have Eb:=hid yt;have xm:=hid yu;have tY:=hid hw8.1;have ZD:Hid (Tk d L lv w8):=hid (M0.out.mv hw8.2 (ae _));obtain ⟨⟨p0,p1,p2,p3,p4⟩,-⟩:=aF yt;obtain ⟨⟨r0,r1,r2,r3,r4⟩,gz⟩:=aF yu;have g0:=gz 0;have g1:=gz 1;have g2:=gz 2;have g3:=gz 3;have g4:=gz 4;have c0:=tY.out.c0;have c1:=tY.out.c1;have c2:=tY.out.c2;rw [← Py.out] at c0;obtain ⟨ln,hln⟩:∃ u,L.length=u:=⟨_,rfl⟩;rw [hln] at c0;have TY:=hid hln;have hsz':=HSZ.out;clear cse hw8 yt yu gz P5
   by_cases hlt:k0<ln
   ·obtain ⟨g,off,cap2,hlv2,hgd,t0,t1,t2,t3⟩:=lI (i:=k0) ZD.out (by omega)
    rw [← Py.out] at hlv2
    injection hlv2 with i1 i2 i3
    subst i1;subst i3;have TM:L[k0].f=(K.tok L sz k0).f:=(mI (by omega)).symm;rw [TM] at t2;obtain ⟨ff,BL⟩:∃ u,(K.tok L sz k0).f=u:=⟨_,rfl⟩;rw [BL] at t2;have HFF:=hid BL
    have hii:(k0:Int)<(ln:Int):=by omega
    have Pq:(0:Int)≤(k0:Int):=by omega
    have TN:kT L sz=(K.gB,ff,101):=by
     have hk0:=IV.out;rw [← BL]
     cases fw:op with
     | bad j =>
      rw [fw] at hk0;have hk0:j=k0:=hk0;rw [← hk0]
      exact tV (D8.out.trans fw)
     | ok p j =>
      rw [fw] at hk0;have hk0:j+bE L j=k0:=hk0;rw [← hk0]
      exact uK (D8.out.trans fw) (by omega)
    have BV:=hid TN;clear TN TM t0 t1 t3 BL hln hgd
    cases fw:op.aA
    all_goals
     rw [fw] at c2;clear fw
     go_upto_region 11 with fail
     go_quiet (fail)
     go_upto_region 13 with fail
     go_quiet (fail)
     go_upto_region 14 with fail
     go_quiet (fail)
     go_wp2_with fail
     generalize hX:World.drewN w8 _=X;obtain ⟨Wf,hWf,f0,pP,BF⟩:=gV (W:=X) (a':=.string ⟨#[]⟩) (b':=.string ⟨#[]⟩) (c':=.int .i64 0) (e':=.int .i64 0) (f':=.slice none 0 0) (by rw [← hX];exact xm.out);rw [hWf];obtain ⟨⟨y0,y1,y2,y3,y4⟩,_⟩:=aF f0;have hbx:Below w.heap.size w X:=(by rw [← hX];exact iC qN.out _)
     have hbw:Below w.heap.size w Wf:=by
      rw [← hWf]
      exact (((((hbx.setCell (p:=⟨w.heap.size,0,none⟩) (ae _) _).setCell (p:=⟨w.heap.size,1,none⟩) (ae _) _).setCell (p:=⟨w.heap.size,2,none⟩) (ae _) _).setCell (p:=⟨w.heap.size,3,none⟩) (ae _) _).setCell (p:=⟨w.heap.size,4,none⟩) (ae _) _)
     have hfin:P (.returned (.tuple #[.agg #[.string ⟨#[]⟩,.string ⟨#[]⟩,.int .i64 0,.int .i64 0,.slice none 0 0],.int .i64 ff,.int .i64 101])) Wf:=HFin.out (K.gB) ff 101 (.slice none 0 0) Wf BV.out ⟨none,0,rfl,ae _,.inl rfl⟩ hbw (by decide);clear hWf f0 pP BF hbx hbw r0 r1 r2 r3 r4 g0 g1 g2 g3 g4 p0 p1 p2 p3 p4
     simp [bodyPost,results,Tryz.results26,go_sem,y0,y1,y2,y3,y4]
     exact hfin
   cases fw:op.aA
   ·rw [fw] at c2
    have hok:=jG fw;obtain ⟨pp,GR⟩:∃ u,op.pt=u:=⟨_,rfl⟩;rw [GR] at hok
    have Mo:¬ op.at+bE L op.at<L.length:=by
     have h:=IV.out;rw [fw,ai (by decide)] at h
     omega
    have dV:=HWt.out pp (Ci (D8.out.trans hok) Mo);have hdp:=zG (size:=sz) (D8.out.trans hok) Mo;obtain ⟨v1,v2⟩:=Mm.out pp op.at hok;obtain ⟨dp,yw⟩:∃ u,deep pp=u:=⟨_,rfl⟩
    have cD:∀ X,Below w8.heap.size w8 X→Calls Tryz.prog 45 #[.agg #[.string kx,.string tx,.int .i64 fx,.int .i64 ex,.slice ax nx cx]] X fun e X'=>e=.returned (.int .i64 dp)∧Below X.heap.size X X':=fun X hX=>by
     rw [show (.agg #[.string kx,.string tx,.int .i64 fx,.int .i64 ex,.slice ax nx cx]:Value)=arg pp (.slice ax nx cx) from v1,← yw]
     exact qg pp _ _ X (dH v2 hX) (by omega)
    rw [yw] at hdp;have KV:=hid v1;have GY:=hid v2;have Nk:=hid dV;have BV:=hid hdp;clear fw hln hok GR Mo dV hdp v1 v2 yw
    go_upto_region 11 with fail
    go_quiet (fail)
    go_wp2_with fail
    refine (cD _ (iC (aj _ _) _)).mono ?_;rintro e9 w9 ⟨rfl,nV⟩;have uL:Below w8.heap.size w8 w9:=(iC (aj _ w8) _).trans nV;have Ec:=(uL.block q (af.1 Eb.out).1).trans Eb.out;have yx:=(uL.block _ (af.1 xm.out).1).trans xm.out;have yz:=hid uL;have Ed:=hid yx;obtain ⟨⟨p0,p1,p2,p3,p4⟩,-⟩:=aF Ec;obtain ⟨⟨r0,r1,r2,r3,r4⟩,gz⟩:=aF yx;have g0:=gz 0;have g1:=gz 1;have g2:=gz 2;have g3:=gz 3;have g4:=gz 4;clear cD nV uL Ec yx gz
    by_cases Ee:40<dp
    ·go_wp2_with fail
     obtain ⟨Wf,hWf,f0,pP,BF⟩:=gV (W:=w9) (a':=.string ⟨#[]⟩) (b':=.string ⟨#[]⟩) (c':=.int .i64 0) (e':=.int .i64 0) (f':=.slice none 0 0) Ed.out;rw [hWf];obtain ⟨⟨y0,y1,y2,y3,y4⟩,_⟩:=aF f0;have hbx:Below w.heap.size w w9:=(qN.out.trans (yz.out.mono qN.out.size))
     have hbw:Below w.heap.size w Wf:=by
      rw [← hWf]
      exact (((((hbx.setCell (p:=⟨w.heap.size,0,none⟩) (ae _) _).setCell (p:=⟨w.heap.size,1,none⟩) (ae _) _).setCell (p:=⟨w.heap.size,2,none⟩) (ae _) _).setCell (p:=⟨w.heap.size,3,none⟩) (ae _) _).setCell (p:=⟨w.heap.size,4,none⟩) (ae _) _)
     have hfin:P (.returned (.tuple #[.agg #[.string ⟨#[]⟩,.string ⟨#[]⟩,.int .i64 0,.int .i64 0,.slice none 0 0],.int .i64 0,.int .i64 22])) Wf:=HFin.out (K.gB) 0 22 (.slice none 0 0) Wf (by rw [BV.out,ay Ee]) ⟨none,0,rfl,ae _,.inl rfl⟩ hbw (by decide);clear hWf f0 pP BF hbx hbw r0 r1 r2 r3 r4 g0 g1 g2 g3 g4 p0 p1 p2 p3 p4
     simp [bodyPost,results,Tryz.results26,go_sem,y0,y1,y2,y3,y4]
     exact hfin
    ·go_wp2_with fail
     obtain ⟨Wf,hWf,f0,pP,BF⟩:=gV (W:=w9) (a':=.string kx) (b':=.string tx) (c':=.int .i64 fx) (e':=.int .i64 ex) (f':=.slice ax nx cx) Ed.out;rw [hWf];obtain ⟨⟨y0,y1,y2,y3,y4⟩,_⟩:=aF f0;have hbx:Below w.heap.size w w9:=(qN.out.trans (yz.out.mono qN.out.size))
     have hbw:Below w.heap.size w Wf:=by
      rw [← hWf]
      exact (((((hbx.setCell (p:=⟨w.heap.size,0,none⟩) (ae _) _).setCell (p:=⟨w.heap.size,1,none⟩) (ae _) _).setCell (p:=⟨w.heap.size,2,none⟩) (ae _) _).setCell (p:=⟨w.heap.size,3,none⟩) (ae _) _).setCell (p:=⟨w.heap.size,4,none⟩) (ae _) _)
     have hfin:P (.returned (.tuple #[.agg #[.string kx,.string tx,.int .i64 fx,.int .i64 ex,.slice ax nx cx],.int .i64 0,.int .i64 0])) Wf:=by have h:=HFin.out pp 0 0 (.slice ax nx cx) Wf (by rw [BV.out,ai Ee]) (aT.later (fun g hg _=>(pP g (by have:=kH.out;omega)).trans (yz.out.block g hg.2)) (fun g hg=>by show w.heap.size≤g;have:=kH.out;omega) _ _ (aT.live _ _ GY.out)) hbw Nk.out;rw [show arg pp (.slice ax nx cx)=(.agg #[.string kx,.string tx,.int .i64 fx,.int .i64 ex,.slice ax nx cx]:Value) from KV.out.symm] at h;exact h
     clear hWf f0 pP BF hbx hbw r0 r1 r2 r3 r4 g0 g1 g2 g3 g4 p0 p1 p2 p3 p4
     simp [bodyPost,results,Tryz.results26,go_sem,y0,y1,y2,y3,y4]
     exact hfin
  rotate_left
 rotate_left 3
 focus
  skip
  have P6:Hid (op=rX L (8*L.length+10) 0):=hid (by
   rw [← D8.out]
   unfold decl
   rw [ay HR1.out])
  go_wp2_with fail
  refine c5.mono ?_;intro x w5 h9;obtain ⟨rfl,dV⟩:=h9.went HR4.out;have mK:=hid (mJ.out.trans (dV.2.mono mJ.out.size));have uV:=hid dV.1;clear c5 h9 dV;have cc:=Ih d L lv ZB (8*L.length+10) 0 false w5 uV.out (HT4.out.mv mK.out (ae _)) (aL _) (fun _=>by omega);rw [aW,← P6.out] at cc;have PT:Hid (op.at≤L.length):=hid (by rw [P6.out];exact (TJ L _ 0 (aL _)).le)
  go_wp2_with fail
  refine cc.mono ?_;rintro x w9 ⟨v,rfl,⟨kx,tx,fx,ex,ax,nx,cx,rfl,hnx,FY⟩,dV⟩;have kF:=hid (mK.out.trans (dV.2.mono mK.out.size));have Av:w9.heap[q]?=_:=(kF.out.block q kH.out.2.2 (by have:=kH.out;omega)).trans HQP.out;obtain ⟨⟨r0,r1,r2,r3,r4⟩,gz⟩:=aF Av;have g0:=gz 0;have g1:=gz 1;have g2:=gz 2;have g3:=gz 3;have g4:=gz 4;obtain ⟨WT,Bp,Xi,zI,hTs⟩:=gV (a':=.string kx) (b':=.string tx) (c':=.int .i64 fx) (e':=.int .i64 ex) (f':=.slice ax nx cx) Av;have Pp:Hid (WT.heap[q]?=some (.cells #[.string kx,.string tx,.int .i64 fx,.int .i64 ex,.slice ax nx cx] 49 (0,0))):=hid Xi;have ZC:Hid (Rd d lv op.at op.aA WT):=hid ((zI d (by have:=kH.out;omega)).trans dV.1);have Ij:Hid (Mv q d W4 WT):=hid ((kF.out.mono (by have:=kH.out;omega)).trans ⟨by rw [← Bp];rfl,by rw [← Bp];rfl,by rw [← Bp];rfl,by omega,fun k hk _=>zI k (by omega)⟩);have M0:Hid (Tk d L lv WT):=hid (Z8.out d WT (by have:=HZ3.out;omega) (fun k hk=>(Ij.out.block k (by have:=kH.out;have:=HZ3.out;omega) (by have:=HZ3.out;omega)).trans (uR.out.block k hk)) (aJ uR.out.size Ij.out.size));have Er:Hid (∀ p j,op=.ok p j→(.agg #[.string kx,.string tx,.int .i64 fx,.int .i64 ex,.slice ax nx cx]:Value)=.agg (five p (.slice ax nx cx)).toArray∧aT WT (fun g=>q<g) p (.slice ax nx cx)):=hid (fun p j h=>⟨(FY p j h).1,(FY p j h).2.later (fun g hg _=>zI g (by have:=mK.out.size;have:=kH.out;omega)) (fun g hg=>by have:=mK.out.size;have:=kH.out;omega)⟩);clear cc dV Av gz Xi zI hTs FY
  go_upto_region 10 with fail
  try rw [Bp]
  clear r0 r1 r2 r3 r4 g0 g1 g2 g3 g4 Bp;have cse:=nP d L lv op.at op.aA WT ZC.out M0.out PT.out ZB;obtain ⟨k0,hk0⟩:∃ u,op.at+(if op.aA then 0 else bE L op.at)=u:=⟨_,rfl⟩;rw [hk0] at cse;obtain ⟨RS,TK⟩:∃ R,decide (0<(if op.aA then 0 else bE L op.at))=R:=⟨_,rfl⟩;rw [TK] at cse;have IV:=hid hk0;clear TK hk0
  go_wp2_with fail
  refine cse.mono ?_;rintro x w8 ⟨rfl,hw8⟩;have P5:q<WT.heap.size:=(af.1 Pp.out).1;have yt:w8.heap[q]?=_:=(hw8.2.block q P5 (by have:=kH.out;omega)).trans Pp.out;have yu:w8.heap[w.heap.size]?=some (.cells #[.string ⟨#[]⟩,.string ⟨#[]⟩,.int .i64 0,.int .i64 0,.slice none 0 0] 49 (0,0)):=(hw8.2.block _ (by have:=kH.out;omega) (by have:=kH.out;omega)).trans ((Ij.out.block _ (by have:=kH.out;omega) (by have:=kH.out;omega)).trans JA.out);have qN:Hid (Below w.heap.size w w8):=hid ((ZO.out.trans ((Ij.out.mono (by have:=kH.out;omega)).below (by have:=kH.out;omega))).trans ((hw8.2.mono (by have:=kH.out;omega)).below (by have:=kH.out;omega)));have Mm:Hid (∀ p j,op=.ok p j→(.agg #[.string kx,.string tx,.int .i64 fx,.int .i64 ex,.slice ax nx cx]:Value)=.agg (five p (.slice ax nx cx)).toArray∧aT w8 (fun g=>q<g) p (.slice ax nx cx)):=hid (fun p j h=>⟨(Er.out p j h).1,(Er.out p j h).2.later (fun g hg hgl=>hw8.2.block g hgl (by have:=kH.out;omega)) (fun _ hg=>hg)⟩);have Eb:=hid yt;have xm:=hid yu;have tY:=hid hw8.1;have ZD:Hid (Tk d L lv w8):=hid (M0.out.mv hw8.2 (ae _));obtain ⟨⟨p0,p1,p2,p3,p4⟩,-⟩:=aF yt;obtain ⟨⟨r0,r1,r2,r3,r4⟩,gz⟩:=aF yu;have g0:=gz 0;have g1:=gz 1;have g2:=gz 2;have g3:=gz 3;have g4:=gz 4;have c0:=tY.out.c0;have c1:=tY.out.c1;have c2:=tY.out.c2;rw [← Py.out] at c0;obtain ⟨ln,hln⟩:∃ u,L.length=u:=⟨_,rfl⟩;rw [hln] at c0;have TY:=hid hln;have hsz':=HSZ.out;clear cse hw8 yt yu gz P5
  by_cases hlt:k0<ln
  ·obtain ⟨g,off,cap2,hlv2,hgd,t0,t1,t2,t3⟩:=lI (i:=k0) ZD.out (by omega)
   rw [← Py.out] at hlv2
   injection hlv2 with i1 i2 i3
   subst i1;subst i3;have TM:L[k0].f=(K.tok L sz k0).f:=(mI (by omega)).symm;rw [TM] at t2;obtain ⟨ff,BL⟩:∃ u,(K.tok L sz k0).f=u:=⟨_,rfl⟩;rw [BL] at t2;have HFF:=hid BL
   have hii:(k0:Int)<(ln:Int):=by omega
   have Pq:(0:Int)≤(k0:Int):=by omega
   have TN:kT L sz=(K.gB,ff,101):=by
    have hk0:=IV.out;rw [← BL]
    cases fw:op with
    | bad j =>
     rw [fw] at hk0;have hk0:j=k0:=hk0;rw [← hk0]
     exact tV (D8.out.trans fw)
    | ok p j =>
     rw [fw] at hk0;have hk0:j+bE L j=k0:=hk0;rw [← hk0]
     exact uK (D8.out.trans fw) (by omega)
   have BV:=hid TN;clear TN TM t0 t1 t3 BL hln hgd
   cases fw:op.aA
   all_goals
    rw [fw] at c2;clear fw
    go_upto_region 11 with fail
    go_quiet (fail)
    go_upto_region 13 with fail
    go_quiet (fail)
    go_upto_region 14 with fail
    go_quiet (fail)
    go_wp2_with fail
    generalize hX:World.drewN w8 _=X;obtain ⟨Wf,hWf,f0,pP,BF⟩:=gV (W:=X) (a':=.string ⟨#[]⟩) (b':=.string ⟨#[]⟩) (c':=.int .i64 0) (e':=.int .i64 0) (f':=.slice none 0 0) (by rw [← hX];exact xm.out);rw [hWf];obtain ⟨⟨y0,y1,y2,y3,y4⟩,_⟩:=aF f0;have hbx:Below w.heap.size w X:=(by rw [← hX];exact iC qN.out _)
    have hbw:Below w.heap.size w Wf:=by
     rw [← hWf]
     exact (((((hbx.setCell (p:=⟨w.heap.size,0,none⟩) (ae _) _).setCell (p:=⟨w.heap.size,1,none⟩) (ae _) _).setCell (p:=⟨w.heap.size,2,none⟩) (ae _) _).setCell (p:=⟨w.heap.size,3,none⟩) (ae _) _).setCell (p:=⟨w.heap.size,4,none⟩) (ae _) _)
    have hfin:P (.returned (.tuple #[.agg #[.string ⟨#[]⟩,.string ⟨#[]⟩,.int .i64 0,.int .i64 0,.slice none 0 0],.int .i64 ff,.int .i64 101])) Wf:=HFin.out (K.gB) ff 101 (.slice none 0 0) Wf BV.out ⟨none,0,rfl,ae _,.inl rfl⟩ hbw (by decide);clear hWf f0 pP BF hbx hbw r0 r1 r2 r3 r4 g0 g1 g2 g3 g4 p0 p1 p2 p3 p4
    simp [bodyPost,results,Tryz.results26,go_sem,y0,y1,y2,y3,y4]
    exact hfin
  cases fw:op.aA
  ·rw [fw] at c2
   have hok:=jG fw;obtain ⟨pp,GR⟩:∃ u,op.pt=u:=⟨_,rfl⟩;rw [GR] at hok
   have Mo:¬ op.at+bE L op.at<L.length:=by
    have h:=IV.out;rw [fw,ai (by decide)] at h
    omega
   have dV:=HWt.out pp (Ci (D8.out.trans hok) Mo);have hdp:=zG (size:=sz) (D8.out.trans hok) Mo;obtain ⟨v1,v2⟩:=Mm.out pp op.at hok;obtain ⟨dp,yw⟩:∃ u,deep pp=u:=⟨_,rfl⟩
   have cD:∀ X,Below w8.heap.size w8 X→Calls Tryz.prog 45 #[.agg #[.string kx,.string tx,.int .i64 fx,.int .i64 ex,.slice ax nx cx]] X fun e X'=>e=.returned (.int .i64 dp)∧Below X.heap.size X X':=fun X hX=>by
    rw [show (.agg #[.string kx,.string tx,.int .i64 fx,.int .i64 ex,.slice ax nx cx]:Value)=arg pp (.slice ax nx cx) from v1,← yw]
    exact qg pp _ _ X (dH v2 hX) (by omega)
   rw [yw] at hdp;have KV:=hid v1;have GY:=hid v2;have Nk:=hid dV;have BV:=hid hdp;clear fw hln hok GR Mo dV hdp v1 v2 yw
   go_upto_region 11 with fail
   go_quiet (fail)
   go_wp2_with fail
   refine (cD _ (iC (aj _ _) _)).mono ?_;rintro e9 w9 ⟨rfl,nV⟩;have uL:Below w8.heap.size w8 w9:=(iC (aj _ w8) _).trans nV;have Ec:=(uL.block q (af.1 Eb.out).1).trans Eb.out;have yx:=(uL.block _ (af.1 xm.out).1).trans xm.out;have yz:=hid uL;have Ed:=hid yx;obtain ⟨⟨p0,p1,p2,p3,p4⟩,-⟩:=aF Ec;obtain ⟨⟨r0,r1,r2,r3,r4⟩,gz⟩:=aF yx;have g0:=gz 0;have g1:=gz 1;have g2:=gz 2;have g3:=gz 3;have g4:=gz 4;clear cD nV uL Ec yx gz
   by_cases Ee:40<dp
   ·go_wp2_with fail
    obtain ⟨Wf,hWf,f0,pP,BF⟩:=gV (W:=w9) (a':=.string ⟨#[]⟩) (b':=.string ⟨#[]⟩) (c':=.int .i64 0) (e':=.int .i64 0) (f':=.slice none 0 0) Ed.out;rw [hWf];obtain ⟨⟨y0,y1,y2,y3,y4⟩,_⟩:=aF f0;have hbx:Below w.heap.size w w9:=(qN.out.trans (yz.out.mono qN.out.size))
    have hbw:Below w.heap.size w Wf:=by
     rw [← hWf]
     exact (((((hbx.setCell (p:=⟨w.heap.size,0,none⟩) (ae _) _).setCell (p:=⟨w.heap.size,1,none⟩) (ae _) _).setCell (p:=⟨w.heap.size,2,none⟩) (ae _) _).setCell (p:=⟨w.heap.size,3,none⟩) (ae _) _).setCell (p:=⟨w.heap.size,4,none⟩) (ae _) _)
    have hfin:P (.returned (.tuple #[.agg #[.string ⟨#[]⟩,.string ⟨#[]⟩,.int .i64 0,.int .i64 0,.slice none 0 0],.int .i64 0,.int .i64 22])) Wf:=HFin.out (K.gB) 0 22 (.slice none 0 0) Wf (by rw [BV.out,ay Ee]) ⟨none,0,rfl,ae _,.inl rfl⟩ hbw (by decide);clear hWf f0 pP BF hbx hbw r0 r1 r2 r3 r4 g0 g1 g2 g3 g4 p0 p1 p2 p3 p4
    simp [bodyPost,results,Tryz.results26,go_sem,y0,y1,y2,y3,y4]
    exact hfin
   ·go_wp2_with fail
    obtain ⟨Wf,hWf,f0,pP,BF⟩:=gV (W:=w9) (a':=.string kx) (b':=.string tx) (c':=.int .i64 fx) (e':=.int .i64 ex) (f':=.slice ax nx cx) Ed.out;rw [hWf];obtain ⟨⟨y0,y1,y2,y3,y4⟩,_⟩:=aF f0;have hbx:Below w.heap.size w w9:=(qN.out.trans (yz.out.mono qN.out.size))
    have hbw:Below w.heap.size w Wf:=by
     rw [← hWf]
     exact (((((hbx.setCell (p:=⟨w.heap.size,0,none⟩) (ae _) _).setCell (p:=⟨w.heap.size,1,none⟩) (ae _) _).setCell (p:=⟨w.heap.size,2,none⟩) (ae _) _).setCell (p:=⟨w.heap.size,3,none⟩) (ae _) _).setCell (p:=⟨w.heap.size,4,none⟩) (ae _) _)
    have hfin:P (.returned (.tuple #[.agg #[.string kx,.string tx,.int .i64 fx,.int .i64 ex,.slice ax nx cx],.int .i64 0,.int .i64 0])) Wf:=by have h:=HFin.out pp 0 0 (.slice ax nx cx) Wf (by rw [BV.out,ai Ee]) (aT.later (fun g hg _=>(pP g (by have:=kH.out;omega)).trans (yz.out.block g hg.2)) (fun g hg=>by show w.heap.size≤g;have:=kH.out;omega) _ _ (aT.live _ _ GY.out)) hbw Nk.out;rw [show arg pp (.slice ax nx cx)=(.agg #[.string kx,.string tx,.int .i64 fx,.int .i64 ex,.slice ax nx cx]:Value) from KV.out.symm] at h;exact h
    clear hWf f0 pP BF hbx hbw r0 r1 r2 r3 r4 g0 g1 g2 g3 g4 p0 p1 p2 p3 p4
    simp [bodyPost,results,Tryz.results26,go_sem,y0,y1,y2,y3,y4]
    exact hfin
 rotate_left
 all_goals
  rw [fw] at c2
  have BV:Hid (kT L sz=(K.gB,(sz:Int),101)):=hid (by
   have hk0:=IV.out
   cases ZE:op with
   | ok p j=>rw [ZE] at fw;cases fw
   | bad j =>
    rw [ZE] at hk0;have hk0:j=k0:=hk0
    rw [tV (D8.out.trans ZE),qF (by omega)])
  clear fw hln
  go_upto_region 11 with fail
  go_quiet (fail)
  go_upto_region 13 with fail
  go_quiet (fail)
  go_wp2_with fail
  generalize hX:World.drewN w8 _=X;obtain ⟨Wf,hWf,f0,pP,BF⟩:=gV (W:=X) (a':=.string ⟨#[]⟩) (b':=.string ⟨#[]⟩) (c':=.int .i64 0) (e':=.int .i64 0) (f':=.slice none 0 0) (by rw [← hX];exact xm.out);rw [hWf];obtain ⟨⟨y0,y1,y2,y3,y4⟩,_⟩:=aF f0;have hbx:Below w.heap.size w X:=(by rw [← hX];exact iC qN.out _)
  have hbw:Below w.heap.size w Wf:=by
   rw [← hWf]
   exact (((((hbx.setCell (p:=⟨w.heap.size,0,none⟩) (ae _) _).setCell (p:=⟨w.heap.size,1,none⟩) (ae _) _).setCell (p:=⟨w.heap.size,2,none⟩) (ae _) _).setCell (p:=⟨w.heap.size,3,none⟩) (ae _) _).setCell (p:=⟨w.heap.size,4,none⟩) (ae _) _)
  have hfin:P (.returned (.tuple #[.agg #[.string ⟨#[]⟩,.string ⟨#[]⟩,.int .i64 0,.int .i64 0,.slice none 0 0],.int .i64 (sz:Int),.int .i64 101])) Wf:=HFin.out (K.gB) (sz:Int) 101 (.slice none 0 0) Wf BV.out ⟨none,0,rfl,ae _,.inl rfl⟩ hbw (by decide);clear hWf f0 pP BF hbx hbw r0 r1 r2 r3 r4 g0 g1 g2 g3 g4 p0 p1 p2 p3 p4
  simp [bodyPost,results,Tryz.results26,go_sem,y0,y1,y2,y3,y4]
  exact hfin
end T
end Go.Proofs.YtojoahlpgmnbnaaGreatDoor
