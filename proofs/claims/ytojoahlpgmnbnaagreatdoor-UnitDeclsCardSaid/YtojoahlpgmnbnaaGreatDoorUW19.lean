/- What the claim needs of the texts TExpr. -/
import Derived.Test.YtojoahlpgmnbnaaGreatDoorUWOp
import Derived.Test.YtojoahlpgmnbnaaGreatDoorUW18
import Derived.Deep.RegionHeld3
set_option maxRecDepth 20000
set_option maxHeartbeats 16000000
namespace Go.Proofs.YtojoahlpgmnbnaaGreatDoor
namespace T
open Go.RowKit
open Go.Lib hiding intOf
open U S L
def AP (d:Nat) (L:List bn) (lv:Value) (n:Nat):Prop:=∀ (than:Int) (i:Nat) (b:Bool) (w:World),Rd d lv i b w→Tk d L lv w→i≤L.length→(b=false→8*(L.length - i)+3≤n) →
 Calls Tryz.prog 110 #[.pointer (some ⟨d,0,none⟩),.int .i64 than] w (Reads d lv (start b i (expr L n than i)) w)
def wR (d:Nat) (L:List bn) (lv:Value) (n:Nat):Prop:=∀ (i:Nat) (b:Bool) (w:World),Rd d lv i b w→Tk d L lv w→i≤L.length→(b=false→8*(L.length - i)+2≤n) →
 Calls Tryz.prog 128 #[.pointer (some ⟨d,0,none⟩)] w (Reads d lv (start b i (cr L n i)) w)
def xw (d:Nat) (L:List bn) (lv:Value) (n:Nat):Prop:=∀ (i:Nat) (b:Bool) (w:World),Rd d lv i b w→Tk d L lv w→i≤L.length→(b=false→8*(L.length - i)+1≤n) →
 Calls Tryz.prog 141 #[.pointer (some ⟨d,0,none⟩)] w (Reads d lv (start b i (operand L n i)) w)
def Out.pt (o:Out Pt):Pt:=match o with
 | .ok a _=>a
 | .bad _=>.mk [] [] 0 0 []
theorem qp.later {W W':World} {R R':Nat→Prop} {o:Out Pt} {v:Value} (h:qp W R o v) (hs:Still R W W') (hR:∀ g,R g→R' g):qp W' R' o v:=by
 obtain ⟨k,t,f,e,a,n,c,h1,h2,h3⟩:=h
 exact ⟨k,t,f,e,a,n,c,h1,h2,fun p j hp=>⟨(h3 p j hp).1,(h3 p j hp).2.later hs hR⟩⟩
theorem Ba {c:Prop} [Decidable c] {A B:Prop} (hc:c) (hA:A):if c then A else B:=by rw [au hc];exact hA
theorem Ik {o:Oper} {a:Act} (x y g off n i c:Nat) (W:World) (ho:o.op=.indexAddr 79 (.tmp x) (.tmp y)) (h1:a.eval (.tmp x)=.slice (some ⟨g,off,none⟩) n c) (h2:a.eval (.tmp y)=.int .i64 i) (hin:i<n):(execOp a.eval o).run Tryz.prog W=.ok (.value (.pointer (some ⟨g,off+i*4,none⟩))) W:=by
 have hm:(0:Int)≤(i:Int):=by omega
 have hm2:(i:Int)<(n:Int):=by omega
 have hr:(Instr.indexAt 79 (.slice (some ⟨g,off,none⟩) n c) (.int .i64 i)).run Tryz.prog W=.ok (.pointer (some ⟨g,off+i*4,none⟩)) W:=by
  simp [go_sem]
  intro h
  omega
 unfold execOp
 rw [ho];simp only [h1,h2,iQ,hr,eP,iR]
structure Cr (d:Nat) (L:List bn) (lv:Value) (n i:Nat) (b:Bool) (than fr:Int) (O:Out Pt) (w W1:World) (q:Nat) (o:Out Pt) (k t:ByteArray) (f e:Int) (sl:Option Addr) (sn sc:Nat) (m:Nat) (W:World):Prop where
 out:O=o.next fun a j=>exprs L m than fr a j
 rd:Rd d lv o.at o.az W
 mv:Mv W1.heap.size d W1 W
 box:W.heap[q]?=some (.cells #[.string k,.string t,.int .i64 f,.int .i64 e,.slice sl sn sc] 49 (0,0))
 part:qp W (fun g=>w.heap.size<g∧g≠q) o (.agg #[.string k,.string t,.int .i64 f,.int .i64 e,.slice sl sn sc])
 le:o.at≤L.length
 gt:o.az=false→i<o.at
 fuel:o.az=false→m<n∧8*(L.length - o.at)+3≤m
theorem PM (d:Nat) (L:List bn) (lv:Value) (hL:L.length≤1000000) (n:Nat) (ihP:∀ m,n=m+1∨m=0→wR d L lv m) (ih:∀ m,m<n→AP d L lv m):AP d L lv n:=by
 intro than i b w hR hT hi hn;have hd:=hR.lt;obtain ⟨W1,hW1⟩:∃ W1,w.alloc gu=W1:=⟨_,rfl⟩
 have hb1:Below w.heap.size w W1:=by rw [← hW1];exact (ah _ w).alloc (ae _) _
 have dN:=hid (Mv.of_below (d:=d) hb1)
 have hq1:W1.heap[w.heap.size]?=some (.cells #[.string ⟨#[]⟩,.string ⟨#[]⟩,.int .i64 0,.int .i64 0,.slice none 0 0] 49 (0,0)):=by rw [← hW1];exact aG w _
 have lK:Rd d lv i b W1:=hR.below hb1;have hT1:=hT.mv (Mv.of_below hb1) (ae _);have k1:=lK.c1;obtain ⟨O,hO⟩:∃ O,start b i (expr L n than i)=O:=⟨_,rfl⟩;rw [hO];obtain ⟨Q,hQ⟩:∃ Q,Reads d lv O w=Q:=⟨_,rfl⟩;have HQ:=hid hQ;rw [hQ]
 obtain ⟨m0,o,ho,hOo,hfu⟩:∃ m0 o,start b i (cr L m0 i)=o∧O=o.next (fun a j=>exprs L m0 than (bQ L i) a j)∧(o.az=false→m0<n∧8*(L.length - o.at)+3≤m0)∧(n=m0+1∨m0=0)∧(b=false→8*(L.length - i)+2≤m0):=by
  cases b
  ·have h1:=hn rfl
   obtain ⟨m,rfl⟩:∃ m,n=m+1:=⟨n - 1,by omega⟩;refine ⟨m,_,rfl,by rw [← hO,aZ,FX,aZ],?_,.inl rfl,fun _=>by omega⟩;intro hb;have:=((iH m).cr i hi).gt hb;have:=((iH m).cr i hi).le;rw [aZ]
   omega
  ·exact ⟨0,.bad i,rfl,hO.symm,(fun h=>by cases h),.inr rfl,(fun h=>by cases h)⟩
 have hfw:pI L i b o:=by rw [← ho];exact .begun hi ((iH m0).cr i hi).toFw
 have hgt:o.az=false→i<o.at:=by
  rw [← ho]
  cases b
  ·exact ((iH m0).cr i hi).gt
  ·intro h;cases h
 have HIP:=hid (ihP m0 hfu.2.1 i b W1 lK hT1 hi hfu.2.2);have HI:=hid ih;have q8:=hid hOo;have HF:=hid hfw;have HGT:=hid hgt;have HFU:=hid hfu.1;have HW1:=hid hW1;have jC:=hid hq1;have HR1:=hid lK;have HT1:=hid hT1;rw [ho] at HIP;clear hO hQ hfu hOo hfw hgt hq1 lK hT1 hb1 hR hT ih ihP hn ho
 go_enter Tryz.func110,Tryz.ntmps110
 go_wp2_with fail
 clear hW1;refine HIP.out.mono ?_;rintro x w4 ⟨v,rfl,⟨k,t,f,e,sl,sn,sc,rfl,hnn,hv⟩,hw4⟩;obtain ⟨q,hq⟩:∃ q,w4.heap.size=q:=⟨_,rfl⟩;have HV:=hid hv;have vE:=hid hw4;clear hv hw4
 go_upto_region 3 with fail
 obtain ⟨W5,Ig⟩:∃ W5,w4.alloc (.cells #[.string k,.string t,.int .i64 f,.int .i64 e,.slice sl sn sc] 49)=W5:=⟨_,rfl⟩
 have hb5:Below w4.heap.size w4 W5:=by rw [← Ig];exact (ah _ w4).alloc (ae _) _
 have xZ:W5.heap[q]?=some (.cells #[.string k,.string t,.int .i64 f,.int .i64 e,.slice sl sn sc] 49 (0,0)):=by rw [← Ig,← hq];exact aG w4 _
 rw [Ig]
 have oH:w.heap.size<q∧W1.heap.size≤q:=by
  have h1:=(af.1 jC.out).1;have h2:=vE.out.2.size
  omega
 have hin:Cr d L lv n i b than (bQ L i) O w W1 q o k t f e sl sn sc m0 W5 :=
  ⟨q8.out,vE.out.1.below hb5,vE.out.2.trans (Mv.of_below (hb5.mono vE.out.2.size)),xZ,
   ⟨k,t,f,e,sl,sn,sc,rfl,hnn,fun p j hp=>⟨(HV.out p j hp).1,(aU.live _ _ (HV.out p j hp).2).later (Mv.still (B:=w4.heap.size) (d:=d) (Mv.of_below hb5) (ae _) (fun g hg=>by have:=(af.1 jC.out).1;omega)) (fun g hg=>by have:=(af.1 jC.out).1;omega)⟩⟩,HF.out.le,HGT.out,HFU.out⟩
 have fC:=hid hin;have Qi:=hid oH;clear hin Ig hb5 xZ oH hnn HV vE HFU HGT HF q8 k1 HIP
 go_loopw [] (fun wr=>∃ (o:Out Pt) (k t:ByteArray) (f e:Int) (sl:Option Addr) (sn sc m:Nat),Hid (Cr d L lv n i b than (bQ L i) O w W1 q o k t f e sl sn sc m wr)) (fun wr=>L.length+1 - atR d wr)
 case atStart=>exact ⟨o,k,t,f,e,sl,sn,sc,m0,fC⟩
 case round =>
  clear fC;obtain ⟨o,k,t,f,e,sl,sn,sc,m,fC⟩:=hrel;have hat:=fC.out.rd.at;obtain ⟨⟨p0,p1,p2,p3,p4⟩,-⟩:=aF fC.out.box;have iZ:wr.heap[w.heap.size]?=_:=(fC.out.mv.block w.heap.size (af.1 jC.out).1 (by omega)).trans jC.out;obtain ⟨⟨r0,r1,r2,r3,r4⟩,gz⟩:=aF iZ;have g0:=gz 0;have g1:=gz 1;have g2:=gz 2;have g3:=gz 3;have g4:=gz 4;have pY:=hid iZ;clear gz iZ
  cases fu:o.az
  focus
   have c2:=fC.out.rd.c2;rw [fu] at c2;have c1:=fC.out.rd.c1;have c0:=fC.out.rd.c0;have hfu:=fC.out.fuel fu;have hgt:=fC.out.gt fu;have hle:=fC.out.le;have Bz:=hid (HT1.out.mv fC.out.mv (ae _));obtain ⟨oa,hoa⟩:∃ u,o.at=u:=⟨_,rfl⟩;obtain ⟨ln,hln⟩:∃ u,L.length=u:=⟨_,rfl⟩
   by_cases hlt:oa<ln
   ·obtain ⟨g,off,cap,hlv,hgd,t0,t1,t2,t3⟩:=lH (i:=oa) Bz.out (by omega)
    rw [hlv,hln] at c0
    have hstr:fE L oa=vI L[oa]:=by unfold fE;rw [aB (by omega)]
    have htx:dx L oa=L[oa].t:=by unfold dx;rw [aB (by omega)]
    have cS:=zI L[oa];rw [← hstr] at cS;rw [hoa] at c1;obtain ⟨st,hst⟩:∃ u,fE L oa=u:=⟨_,rfl⟩;rw [hst] at cS;have NJ:=hstr;generalize L[oa]=tk at t0 t1 t2 t3 cS htx NJ;obtain ⟨tw,tt,tf,te⟩:=tk;dsimp only at t0 t1 t2 t3 cS htx;rw [show (⟨tt.toArray⟩:ByteArray)=aX tt from rfl] at t1;have hdr:d<wr.heap.size:=fC.out.rd.lt;have hgr:g<wr.heap.size:=aY wr _ t0;obtain ⟨S,hS⟩:∃ S:World→Prop,S=(fun X=>X.cell? ⟨d,0,none⟩=some (.slice (some ⟨g,off,none⟩) ln cap)∧X.cell? ⟨d,1,none⟩=some (.int .i64 oa)∧X.cell? ⟨d,2,none⟩=some (.bool false)∧X.cell? ⟨g,off+oa*4,none⟩=some (.int .i64 tw)∧X.cell? ⟨g,off+oa*4+1,none⟩=some (.string (aX tt))∧X.cell? ⟨g,off+oa*4+2,none⟩=some (.int .i64 tf)∧X.cell? ⟨g,off+oa*4+3,none⟩=some (.int .i64 te)∧Below wr.heap.size wr X):=⟨_,rfl⟩
    have cS2:∀ X,S X→Calls Tryz.prog 129 #[.agg #[.int .i64 tw,.string (aX tt),.int .i64 tf,.int .i64 te]] X fun e w'=>e=.returned (.int .i64 st)∧S w':=by
     intro X hX;rw [hS] at hX ⊢;obtain ⟨x0,x1,x2,x3,x4,x5,x6,x7⟩:=hX;have hsz:=x7.size;refine (cS X).mono ?_;rintro e w' ⟨rfl,h2⟩
     exact ⟨rfl,(h2.cell (p:=⟨d,0,none⟩) (by simp only;omega)).trans x0,(h2.cell (p:=⟨d,1,none⟩) (by simp only;omega)).trans x1,(h2.cell (p:=⟨d,2,none⟩) (by simp only;omega)).trans x2,(h2.cell (p:=⟨g,off+oa*4,none⟩) (by simp only;omega)).trans x3,(h2.cell (p:=⟨g,off+oa*4+1,none⟩) (by simp only;omega)).trans x4,(h2.cell (p:=⟨g,off+oa*4+2,none⟩) (by simp only;omega)).trans x5,(h2.cell (p:=⟨g,off+oa*4+3,none⟩) (by simp only;omega)).trans x6,x7.trans (h2.mono hsz)⟩
    have hS0:S wr.drew:=by rw [hS];exact ⟨c0,c1,c2,t0,t1,t2,t3,(ah _ _).drew⟩
    rw [hS] at cS2 hS0;clear hS cS
    go_upto_region 3 with fail
    go_region_held3 (fun X=>X.cell? ⟨d,0,none⟩=some (.slice (some ⟨g,off,none⟩) ln cap)∧X.cell? ⟨d,1,none⟩=some (.int .i64 oa)∧X.cell? ⟨d,2,none⟩=some (.bool false)∧X.cell? ⟨g,off+oa*4,none⟩=some (.int .i64 tw)∧X.cell? ⟨g,off+oa*4+1,none⟩=some (.string (aX tt))∧X.cell? ⟨g,off+oa*4+2,none⟩=some (.int .i64 tf)∧X.cell? ⟨g,off+oa*4+3,none⟩=some (.int .i64 te)∧Below wr.heap.size wr X) (with_reducible (repeat (first|assumption))) (first|(go_at_call 129;(with_reducible refine (cS2 _ ?_).mono ?_);assumption;rintro e3 w6 ⟨rfl,hS6⟩))
    have KE:=hS6.2.2.2.2.2.2.2;obtain ⟨x0,x1,x2,x3,x4,x5,x6,-⟩:=hS6;have IC:=(KE.block q (af.1 fC.out.box).1).trans fC.out.box;have hz6:=(KE.block w.heap.size (af.1 pY.out).1).trans pY.out;have nM:=hid KE;have VU:=hid hz6;have HK6:=hid IC;obtain ⟨⟨p0,p1,p2,p3,p4⟩,fz⟩:=aF IC;obtain ⟨⟨r0,r1,r2,r3,r4⟩,gz⟩:=aF hz6;have g0:=gz 0;have g1:=gz 1;have g2:=gz 2;have g3:=gz 3;have g4:=gz 4;clear KE IC hz6 c0 c1 c2 t0 t1 t2 t3 cS2 hS0 gz
    by_cases hth:than<st
    ·clear r0 r1 r2 r3 r4 g0 g1 g2 g3 g4
     have f1:=(fC.out.rd.below nM.out).f1
     go_upto_region 4 with fail
     have hd6:d<w6.heap.size:=aC hdr nM.out.size;have Px:g<w6.heap.size:=aC hgr nM.out.size
     have hc0:∀ X,Below w6.heap.size w6 X→X.cell? ⟨d,0,none⟩=some (.slice (some ⟨g,off,none⟩) ln cap):=fun X h=>(h.cell (p:=⟨d,0,none⟩) (by simp only;omega)).trans x0
     have hc1:∀ X,Below w6.heap.size w6 X→X.cell? ⟨d,1,none⟩=some (.int .i64 oa):=fun X h=>(h.cell (p:=⟨d,1,none⟩) (by simp only;omega)).trans x1
     have hc2:∀ X,Below w6.heap.size w6 X→X.cell? ⟨g,off+oa*4,none⟩=some (.int .i64 tw):=fun X h=>(h.cell (p:=⟨g,off+oa*4,none⟩) (by simp only;omega)).trans x3
     have hc3:∀ X,Below w6.heap.size w6 X→X.cell? ⟨g,off+oa*4+1,none⟩=some (.string (aX tt)):=fun X h=>(h.cell (p:=⟨g,off+oa*4+1,none⟩) (by simp only;omega)).trans x4
     have hc4:∀ X,Below w6.heap.size w6 X→X.cell? ⟨g,off+oa*4+2,none⟩=some (.int .i64 tf):=fun X h=>(h.cell (p:=⟨g,off+oa*4+2,none⟩) (by simp only;omega)).trans x5
     have Zn:∀ X,Below w6.heap.size w6 X→X.cell? ⟨g,off+oa*4+3,none⟩=some (.int .i64 te):=fun X h=>(h.cell (p:=⟨g,off+oa*4+3,none⟩) (by simp only;omega)).trans x6
     have hS0:(fun X=>X.cell? ⟨d,0,none⟩=some (.slice (some ⟨g,off,none⟩) ln cap)∧X.cell? ⟨d,1,none⟩=some (.int .i64 oa)∧X.cell? ⟨g,off+oa*4,none⟩=some (.int .i64 tw)∧X.cell? ⟨g,off+oa*4+1,none⟩=some (.string (aX tt))∧X.cell? ⟨g,off+oa*4+2,none⟩=some (.int .i64 tf)∧X.cell? ⟨g,off+oa*4+3,none⟩=some (.int .i64 te)∧Below w6.heap.size w6 X) w6.drew:=⟨x0,x1,x3,x4,x5,x6,(ah _ _).drew⟩;dsimp only at hS0
     go_region_held3 (fun X=>X.cell? ⟨d,0,none⟩=some (.slice (some ⟨g,off,none⟩) ln cap)∧X.cell? ⟨d,1,none⟩=some (.int .i64 oa)∧X.cell? ⟨g,off+oa*4,none⟩=some (.int .i64 tw)∧X.cell? ⟨g,off+oa*4+1,none⟩=some (.string (aX tt))∧X.cell? ⟨g,off+oa*4+2,none⟩=some (.int .i64 tf)∧X.cell? ⟨g,off+oa*4+3,none⟩=some (.int .i64 te)∧Below w6.heap.size w6 X) (with_reducible (repeat (first|assumption|refine And.intro ?_ ?_|exact ah _ _|refine Below.drew ?_|refine Below.alloc ?_ (ae _) _|refine Below.setCell ?_ (ae _) _|refine hc0 _ ?_|refine hc1 _ ?_|refine hc2 _ ?_|refine hc3 _ ?_|refine hc4 _ ?_|refine Zn _ ?_))) (first|fail)
     clear hc0 hc1 hc2 hc3 hc4 Zn hS0;have e1:IntKind.i64.wrap ((oa:Int)+1)=(oa:Int)+1:=bq _ (by omega)
     go_upto_region 6 with fail
     obtain ⟨W7,Uf⟩:∃ W7,((w6.setCell ⟨d,1,none⟩ (.int .i64 ((oa:Int)+1))).alloc (.cells #[.int .i64 tw,.string (aX tt),.int .i64 tf,.int .i64 te] 86)).drew=W7:=⟨_,rfl⟩;rw [Uf]
     have hR7:Rd d lv (oa+1) false W7:=by
      rw [← Uf];have h1:Rd d lv o.at o.az w6:=fC.out.rd.below nM.out;rw [fu] at h1
      exact (h1.set1 ((oa:Int)+1) (by simp)).below ((ah _ _).alloc (ae _) _).drew
     have hM7:Mv w6.heap.size d w6 W7:=by
      rw [← Uf]
      have hsz:(w6.setCell ⟨d,1,none⟩ (.int .i64 ((oa:Int)+1))).heap.size=w6.heap.size:=by simp
      exact ((Mv.refl _ _ _).setCell 1 _).trans (Mv.of_below ((ah _ _).alloc (Nat.le_of_eq hsz.symm) _).drew)
     have hk7:W7.heap[w6.heap.size]?=some (.cells #[.int .i64 tw,.string (aX tt),.int .i64 tf,.int .i64 te] 86 (0,0)):=by
      rw [← Uf];have h1:=aG (w6.setCell ⟨d,1,none⟩ (.int .i64 ((oa:Int)+1))) (.cells #[.int .i64 tw,.string (aX tt),.int .i64 tf,.int .i64 te] 86);rw [show (w6.setCell ⟨d,1,none⟩ (.int .i64 ((oa:Int)+1))).heap.size=w6.heap.size by simp] at h1
      exact h1
     have m0':W7.cell? ⟨w6.heap.size,0,none⟩=some (.int .i64 tw):=by simp [World.cell?,hk7]
     have m1':W7.cell? ⟨w6.heap.size,1,none⟩=some (.string (aX tt)):=by simp [World.cell?,hk7]
     have m2':W7.cell? ⟨w6.heap.size,2,none⟩=some (.int .i64 tf):=by simp [World.cell?,hk7]
     have m3':W7.cell? ⟨w6.heap.size,3,none⟩=some (.int .i64 te):=by simp [World.cell?,hk7]
     obtain ⟨m',rfl⟩:∃ m',m=m'+1:=⟨m - 1,by omega⟩;have HIX:=HI.out m' (by omega) st (oa+1) false;rw [aZ] at HIX;obtain ⟨ob,Zo⟩:∃ u,expr L m' st (oa+1)=u:=⟨_,rfl⟩;rw [Zo] at HIX
     have hbf:wI L (oa+1) ob:=by rw [← Zo];exact (iH m').expr (oa+1) (by omega) st
     have q8:Hid (O=ob.next fun x j=>exprs L m' than (bQ L i) (.mk dG (dx L oa) (bQ L i) (jZ L j) [o.pt,x]) j):=hid (by
      rw [fC.out.out]
      cases o with
      | bad j=>cases fu
      | ok a j =>
       have hj:j=oa:=hoa
       show exprs L (m'+1) than _ a j=_
       rw [uR,hj,au ⟨by omega,by rw [hst];exact hth⟩,hst,Zo]
       rfl)
     have cX:=zI ⟨tw,tt,tf,te⟩ W7
     have hfin:vI ⟨tw,tt,tf,te⟩=st:=by rw [← hst,NJ]
     rw [hfin] at cX;have hfz:b=b:=rfl;have hT7:=Bz.out.mv ((Mv.of_below nM.out).trans (hM7.mono nM.out.size)) (ae _);have iK:=hid hM7;have sH:=hid hR7;have HT7:=hid hT7;have VL:=hid hk7;have Xp:=hid hbf;have afT:=hid HIX;clear hR7 hM7 hT7 hk7 Uf hbf hfz hfin x0 x1 x2 x3 x4 x5 x6 p0 p1 p2 p3 p4 fz HIX
     go_wp2_with fail
     refine cX.mono ?_;rintro e3 w8 ⟨rfl,qO⟩;have c9:=afT.out w8 (sH.out.below qO) (HT7.out.mv (Mv.of_below qO) (ae _)) (by omega) (fun _=>by omega);have Xl:=hid qO;clear cX qO
     go_wp2_with fail
     refine c9.mono ?_;rintro x w9 ⟨v,rfl,⟨kb,tb,fb,eb,ab,nb,cb,rfl,hnb,hvb⟩,dU⟩;have Il:=hid hvb;have NK:=hid dU;clear c9 hvb dU
     go_upto_region 7 with fail
     obtain ⟨qb,AQ⟩:∃ q,w9.heap.size=q:=⟨_,rfl⟩;obtain ⟨WA,hWA⟩:∃ W,w9.alloc (.cells #[.string kb,.string tb,.int .i64 fb,.int .i64 eb,.slice ab nb cb] 49)=W:=⟨_,rfl⟩
     have Mo:Below w9.heap.size w9 WA:=by rw [← hWA];exact (ah _ w9).alloc (ae _) _
     have hkA:WA.heap[qb]?=some (.cells #[.string kb,.string tb,.int .i64 fb,.int .i64 eb,.slice ab nb cb] 49 (0,0)):=by rw [← hWA,← AQ];exact aG w9 _
     rw [hWA,AQ];have Mq:Rd d lv ob.at ob.az WA:=NK.out.1.below Mo;have z78:=iK.out.size;have z89:=Xl.out.size;have z9:=NK.out.2.size;have zA:=Mo.size;have z6:=nM.out.size;have TC:Mv w6.heap.size d w6 WA:=((iK.out.trans ((Mv.of_below Xl.out).mono z78)).trans (NK.out.2.mono (by omega))).trans ((Mv.of_below Mo).mono (by omega));have hMA:Mv W1.heap.size d W1 WA:=(fC.out.mv.trans ((Mv.of_below nM.out).mono fC.out.mv.size)).trans (TC.mono (by have:=fC.out.mv.size;omega));have hqA:WA.heap[q]?=_:=(TC.block q (af.1 HK6.out).1 (by have:=Qi.out;have:=dN.out.size;omega)).trans HK6.out;have Zp:=Mq.at;have afW:=Xp.out.ge;have Wj:=Xp.out.le
     have hsn:sn≤1000000:=by
      obtain ⟨k',t',f',e',a',n',c',h1,h2,_⟩:=fC.out.part;have h3:=congrArg (fun v:Value=>match v with|.agg xs=>xs.toList|_=>[]) h1
      simp at h3
      omega
     have c2:=Mq.c2
     cases pO:ob.az
     ·rw [pO] at c2 Mq
      have hil:i<L.length:=by omega
      have HTA:=hid (HT1.out.mv hMA (ae _));obtain ⟨g2,ajE,cap2,hlv2,_,y0,y1,y2,y3⟩:=lH (i:=i) HTA.out hil;rw [hlv] at hlv2
      injection hlv2 with i1 i2 i3
      injection i1 with i1
      injection i1 with i1 i4 i5
      subst i1;subst i4;have c0:=Mq.c0;rw [hlv,hln] at c0
      have hfr:bQ L i=L[i].f:=by unfold bQ;rw [aB hil]
      rw [← hfr] at y2;obtain ⟨fr,hfr2⟩:∃ fr,bQ L i=fr:=⟨_,rfl⟩;rw [hfr2] at y2;obtain ⟨⟨p0,p1,p2,p3,p4⟩,gz⟩:=aF hqA;obtain ⟨⟨b0,b1,b2,b3,b4⟩,-⟩:=aF hkA;have g0:=gz 0;have g1:=gz 1;have g2':=gz 2;have g3:=gz 3;have g4:=gz 4;have z67:=(af.1 VL.out).1;have hmk:WA.heap[w6.heap.size]?=_:=(Mo.block _ (by omega)).trans ((NK.out.2.block w6.heap.size (by omega) (by have:=dN.out.size;have:=fC.out.mv.size;omega)).trans ((Xl.out.block _ (af.1 VL.out).1).trans VL.out))
      have mk1:WA.cell? ⟨w6.heap.size,1,none⟩=some (.string (aX tt)):=by simp [World.cell?,hmk]
      clear y0 y1 y3 gz;have hgA:g<WA.heap.size:=aY WA _ y2;have ajF:qb<WA.heap.size:=aY WA _ b0;have hmA:w6.heap.size<WA.heap.size:=aY WA _ mk1;have hdA:d<WA.heap.size:=Mq.lt;have ajG:q<w6.heap.size:=(af.1 HK6.out).1
      have qD:d≠q:=by have:=Qi.out;omega
      have hgq:g≠q:=by
       obtain ⟨la,cap',h1,h2⟩:=HT1.out
       rcases h2 with h2|⟨g',off',h3,_,h5,_⟩
       ·rw [h2] at hil;exact absurd hil (aS _)
       ·rw [hlv,h3] at h1
        injection h1 with h1
        injection h1 with h1
        injection h1 with h1
        have:=Qi.out
        omega
      have Wk:∀ {X:World} {p:Addr},Mv WA.heap.size q WA X→p.block<WA.heap.size→p.block≠q→X.cell? p=WA.cell? p:=by
       intro X p h h1 h2;have h3:=h.block p.block h1 h2
       unfold World.cell?
       rw [h3]
      have hc0:∀ X,Mv WA.heap.size q WA X→X.cell? ⟨d,0,none⟩=some (.slice (some ⟨g,off,none⟩) ln cap):=fun X h=>(Wk (p:=⟨d,0,none⟩) h (by simp only;omega) (by simp only;omega)).trans c0
      have hc1:∀ X,Mv WA.heap.size q WA X→X.cell? ⟨g,off+i*4+2,none⟩=some (.int .i64 fr):=fun X h=>(Wk (p:=⟨g,off+i*4+2,none⟩) h (by simp only;omega) (by simp only;omega)).trans y2
      have hc2:∀ X,Mv WA.heap.size q WA X→X.cell? ⟨qb,0,none⟩=some (.string kb):=fun X h=>(Wk (p:=⟨qb,0,none⟩) h (by simp only;omega) (by simp only;omega)).trans b0
      have hc3:∀ X,Mv WA.heap.size q WA X→X.cell? ⟨qb,1,none⟩=some (.string tb):=fun X h=>(Wk (p:=⟨qb,1,none⟩) h (by simp only;omega) (by simp only;omega)).trans b1
      have hc4:∀ X,Mv WA.heap.size q WA X→X.cell? ⟨qb,2,none⟩=some (.int .i64 fb):=fun X h=>(Wk (p:=⟨qb,2,none⟩) h (by simp only;omega) (by simp only;omega)).trans b2
      have Zn:∀ X,Mv WA.heap.size q WA X→X.cell? ⟨qb,3,none⟩=some (.int .i64 eb):=fun X h=>(Wk (p:=⟨qb,3,none⟩) h (by simp only;omega) (by simp only;omega)).trans b3
      have hc6:∀ X,Mv WA.heap.size q WA X→X.cell? ⟨qb,4,none⟩=some (.slice ab nb cb):=fun X h=>(Wk (p:=⟨qb,4,none⟩) h (by simp only;omega) (by simp only;omega)).trans b4
      have hc7:∀ X,Mv WA.heap.size q WA X→X.cell? ⟨w6.heap.size,1,none⟩=some (.string (aX tt)):=fun X h=>(Wk (p:=⟨w6.heap.size,1,none⟩) h (by simp only;omega) (by simp only;omega)).trans mk1
      have hS0:(fun X=>X.cell? ⟨d,0,none⟩=some (.slice (some ⟨g,off,none⟩) ln cap)∧X.cell? ⟨g,off+i*4+2,none⟩=some (.int .i64 fr)∧X.cell? ⟨qb,0,none⟩=some (.string kb)∧X.cell? ⟨qb,1,none⟩=some (.string tb)∧X.cell? ⟨qb,2,none⟩=some (.int .i64 fb)∧X.cell? ⟨qb,3,none⟩=some (.int .i64 eb)∧X.cell? ⟨qb,4,none⟩=some (.slice ab nb cb)∧X.cell? ⟨w6.heap.size,1,none⟩=some (.string (aX tt))∧Mv WA.heap.size q WA X) WA.drew:=⟨c0,y2,b0,b1,b2,b3,b4,mk1,(Mv.refl _ _ _).drewN 1⟩;dsimp only at hS0;have AR:Below WA.heap.size WA ((WA.alloc (.cells #[.string k,.string t,.int .i64 f,.int .i64 e,.slice sl sn sc,.string kb,.string tb,.int .i64 fb,.int .i64 eb,.slice ab nb cb] 49)).drew):=((ah _ _).alloc (ae _) _).drew
      have cP:∀ X,Below WA.heap.size WA X→(X.cell? ⟨d,0,none⟩=some (.slice (some ⟨g,off,none⟩) ln cap)∧X.cell? ⟨g,off+i*4+2,none⟩=some (.int .i64 fr)∧X.cell? ⟨qb,0,none⟩=some (.string kb)∧X.cell? ⟨qb,1,none⟩=some (.string tb)∧X.cell? ⟨qb,2,none⟩=some (.int .i64 fb)∧X.cell? ⟨qb,3,none⟩=some (.int .i64 eb)∧X.cell? ⟨qb,4,none⟩=some (.slice ab nb cb)∧X.cell? ⟨w6.heap.size,1,none⟩=some (.string (aX tt))∧Mv WA.heap.size q WA X)→Calls Tryz.prog 66 #[.pointer (some ⟨d,0,none⟩),.string ⟨#[98,105,110,97,114,121]⟩,.string (aX tt),.int .i64 fr,.slice (some ⟨WA.heap.size,0,none⟩) 2 2] X fun en w'=>en=.returned (.agg #[.string ⟨#[98,105,110,97,114,121]⟩,.string (aX tt),.int .i64 fr,.int .i64 (jZ L ob.at),.slice (some ⟨WA.heap.size,0,none⟩) 2 2])∧(w'.cell? ⟨d,0,none⟩=some (.slice (some ⟨g,off,none⟩) ln cap)∧w'.cell? ⟨g,off+i*4+2,none⟩=some (.int .i64 fr)∧w'.cell? ⟨qb,0,none⟩=some (.string kb)∧w'.cell? ⟨qb,1,none⟩=some (.string tb)∧w'.cell? ⟨qb,2,none⟩=some (.int .i64 fb)∧w'.cell? ⟨qb,3,none⟩=some (.int .i64 eb)∧w'.cell? ⟨qb,4,none⟩=some (.slice ab nb cb)∧w'.cell? ⟨w6.heap.size,1,none⟩=some (.string (aX tt))∧Mv WA.heap.size q WA w')∧Hid (kz d lv ob.at false X w')∧w'.cell? ⟨q,0,none⟩=some (.string k)∧w'.cell? ⟨q,1,none⟩=some (.string t)∧w'.cell? ⟨q,2,none⟩=some (.int .i64 f)∧w'.cell? ⟨q,3,none⟩=some (.int .i64 e)∧w'.cell? ⟨q,4,none⟩=some (.slice sl sn sc)∧(w'.frozen? ⟨q,0,none⟩=false∧w'.frozen? ⟨q,1,none⟩=false∧w'.frozen? ⟨q,2,none⟩=false∧w'.frozen? ⟨q,3,none⟩=false∧w'.frozen? ⟨q,4,none⟩=false):=by
       intro X hX _;refine (eZ d L lv ob.at false ⟨#[98,105,110,97,114,121]⟩ (aX tt) fr _ 2 2 X (Mq.below hX) (HTA.out.mv (Mv.of_below hX) (ae _)) Wj hL).mono ?_;rintro e w' ⟨rfl,h2⟩;have h3:Mv WA.heap.size d WA w':=(Mv.of_below hX).trans (h2.2.mono hX.size)
       have h4:Below WA.heap.size WA w':=⟨h3.os,h3.tape,h3.output,h3.size,fun g' hg'=>by
        by_cases hd':g'=d
        ·subst hd';exact h2.1.trans Mq.symm
        ·exact h3.block g' hg' hd'⟩
       have h5:Mv WA.heap.size q WA w':=Mv.of_below h4;obtain ⟨⟨u0,u1,u2,u3,u4⟩,uz⟩:=aF ((h4.block q (by omega)).trans hqA)
       exact ⟨rfl,⟨hc0 _ h5,hc1 _ h5,hc2 _ h5,hc3 _ h5,hc4 _ h5,Zn _ h5,hc6 _ h5,hc7 _ h5,h5⟩,hid h2,u0,u1,u2,u3,u4,uz 0,uz 1,uz 2,uz 3,uz 4⟩
      have HRA:=hid Mq;have afZ:=hid TC;have HMA:=hid hMA;have HQA:=hid hqA;have PN:=hid AR;clear Wk hkA hmk Zp TC hMA
      have hii:(i:Int)<(ln:Int):=by omega
      have PO:(0:Int)≤(i:Int):=by omega
      go_upto_region 8 with fail
      refine aK (S:=fun X=>X.cell? ⟨d,0,none⟩=some (.slice (some ⟨g,off,none⟩) ln cap)∧X.cell? ⟨g,off+i*4+2,none⟩=some (.int .i64 fr)∧X.cell? ⟨qb,0,none⟩=some (.string kb)∧X.cell? ⟨qb,1,none⟩=some (.string tb)∧X.cell? ⟨qb,2,none⟩=some (.int .i64 fb)∧X.cell? ⟨qb,3,none⟩=some (.int .i64 eb)∧X.cell? ⟨qb,4,none⟩=some (.slice ab nb cb)∧X.cell? ⟨w6.heap.size,1,none⟩=some (.string (aX tt))∧Mv WA.heap.size q WA X) (by kernel_rfl) hS0 fun ag=>?_
      refine OP.m 0 rfl (.pointer (some ⟨d,0,none⟩)) ag ?_;simp only [OP.s];refine OP.m 1 rfl (.pointer (some ⟨w6.heap.size,1,none⟩)) ag ?_;simp only [OP.s];refine OP.t 2 rfl (.string (aX tt)) (fun X hX=>by obtain ⟨q0,q1,q2,q3,q4,q5,q6,q7,-⟩:=hX;go_simp) ag ?_;simp only [OP.s];refine OP.m 3 rfl (.pointer (some ⟨d,0,none⟩)) ag ?_;simp only [OP.s];refine OP.m 4 rfl (.pointer (some ⟨d,0,none⟩)) ag ?_;simp only [OP.s];refine OP.m 5 rfl (.pointer (some ⟨d,0,none⟩)) ag ?_;simp only [OP.s];refine OP.t 6 rfl (.slice (some ⟨g,off,none⟩) ln cap) (fun X hX=>by obtain ⟨q0,q1,q2,q3,q4,q5,q6,q7,-⟩:=hX;go_simp) ag ?_;simp only [OP.s];refine OP.m 7 rfl (.int .i64 i) ag ?_;simp only [OP.s];refine OP.t 8 rfl (.pointer (some ⟨g,off+i*4,none⟩)) (fun X hX=>Ik 79 80 g off ln i cap X rfl rfl rfl (by omega)) ag ?_;simp only [OP.s];refine OP.m 9 rfl (.pointer (some ⟨g,off+i*4+2,none⟩)) ag ?_;simp only [OP.s];refine OP.t 10 rfl (.int .i64 fr) (fun X hX=>by obtain ⟨q0,q1,q2,q3,q4,q5,q6,q7,-⟩:=hX;go_simp) ag ?_;simp only [OP.s];refine OP.t 12 rfl (.agg #[.string kb,.string tb,.int .i64 fb,.int .i64 eb,.slice ab nb cb]) (fun X hX=>by obtain ⟨q0,q1,q2,q3,q4,q5,q6,q7,-⟩:=hX;go_simp) ag ?_;simp only [OP.s]
      refine OP.r 11 rfl fun K hK=>?_
      go_simp
      refine hK.out _ _ ag fun ag=>?_
      try simp only [OP.s]
      clear hK K
      refine OP.r 13 rfl fun K hK=>?_
      go_simp
      have UU:(fun X=>X.cell? ⟨d,0,none⟩=some (.slice (some ⟨g,off,none⟩) ln cap)∧X.cell? ⟨g,off+i*4+2,none⟩=some (.int .i64 fr)∧X.cell? ⟨qb,0,none⟩=some (.string kb)∧X.cell? ⟨qb,1,none⟩=some (.string tb)∧X.cell? ⟨qb,2,none⟩=some (.int .i64 fb)∧X.cell? ⟨qb,3,none⟩=some (.int .i64 eb)∧X.cell? ⟨qb,4,none⟩=some (.slice ab nb cb)∧X.cell? ⟨w6.heap.size,1,none⟩=some (.string (aX tt))∧Mv WA.heap.size q WA X) ((WA.alloc (.cells #[.string k,.string t,.int .i64 f,.int .i64 e,.slice sl sn sc,.string kb,.string tb,.int .i64 fb,.int .i64 eb,.slice ab nb cb] 49)).drew):=by
       have h:=(Mv.of_below (d:=q) AR)
       exact ⟨hc0 _ h,hc1 _ h,hc2 _ h,hc3 _ h,hc4 _ h,Zn _ h,hc6 _ h,hc7 _ h,h⟩
      refine hK.out _ _ UU fun ag=>?_
      try simp only [OP.s]
      clear hK K
      refine OP.r 14 rfl fun K hK=>?_
      go_simp
      go_at_call 66
      refine (cP _ AR ag).mono ?_;rintro e3 wP ⟨rfl,hSP,FZ,u0,u1,u2,u3,u4,v0,v1,v2,v3,v4⟩;dsimp only;refine hK.out _ _ (hSP) (fun sO=>?_)
      try simp only [OP.s]
      clear hK K
      refine OP.r 15 rfl fun K hK=>?_
      go_simp
      have acr:(fun X=>X.cell? ⟨d,0,none⟩=some (.slice (some ⟨g,off,none⟩) ln cap)∧X.cell? ⟨g,off+i*4+2,none⟩=some (.int .i64 fr)∧X.cell? ⟨qb,0,none⟩=some (.string kb)∧X.cell? ⟨qb,1,none⟩=some (.string tb)∧X.cell? ⟨qb,2,none⟩=some (.int .i64 fb)∧X.cell? ⟨qb,3,none⟩=some (.int .i64 eb)∧X.cell? ⟨qb,4,none⟩=some (.slice ab nb cb)∧X.cell? ⟨w6.heap.size,1,none⟩=some (.string (aX tt))∧Mv WA.heap.size q WA X) (((((wP.setCell ⟨q,0,none⟩ (.string ⟨#[98,105,110,97,114,121]⟩)).setCell ⟨q,1,none⟩ (.string (aX tt))).setCell ⟨q,2,none⟩ (.int .i64 fr)).setCell ⟨q,3,none⟩ (.int .i64 (jZ L ob.at))).setCell ⟨q,4,none⟩ (.slice (some ⟨WA.heap.size,0,none⟩) 2 2)):=by
       have h:Mv WA.heap.size q WA (((((wP.setCell ⟨q,0,none⟩ (.string ⟨#[98,105,110,97,114,121]⟩)).setCell ⟨q,1,none⟩ (.string (aX tt))).setCell ⟨q,2,none⟩ (.int .i64 fr)).setCell ⟨q,3,none⟩ (.int .i64 (jZ L ob.at))).setCell ⟨q,4,none⟩ (.slice (some ⟨WA.heap.size,0,none⟩) 2 2)):=((((hSP.2.2.2.2.2.2.2.2.setCell 0 _).setCell 1 _).setCell 2 _).setCell 3 _).setCell 4 _
       exact ⟨hc0 _ h,hc1 _ h,hc2 _ h,hc3 _ h,hc4 _ h,Zn _ h,hc6 _ h,hc7 _ h,h⟩
      refine hK.out _ _ (acr) (fun Zq=>?_)
      try simp only [OP.s]
      clear hK K;clear ag sO Zq UU acr;refine bz (by kernel_rfl) ?_ _
      obtain ⟨x,j,Wl⟩:∃ x j,ob=.ok x j:=by
       cases ob with
       | ok x j=>exact ⟨x,j,rfl⟩
       | bad j=>cases pO
      obtain ⟨a,ja,Zr⟩:∃ a j,o=.ok a j:=by
       cases o with
       | ok x j=>exact ⟨x,j,rfl⟩
       | bad j=>cases fu
      have Wm:ob.at=j:=by rw [Wl];rfl
      have hMP:Mv WA.heap.size q WA wP:=hSP.2.2.2.2.2.2.2.2;obtain ⟨WF,Ea⟩:∃ W,(((((wP.setCell ⟨q,0,none⟩ (.string ⟨#[98,105,110,97,114,121]⟩)).setCell ⟨q,1,none⟩ (.string (aX tt))).setCell ⟨q,2,none⟩ (.int .i64 fr)).setCell ⟨q,3,none⟩ (.int .i64 (jZ L ob.at))).setCell ⟨q,4,none⟩ (.slice (some ⟨WA.heap.size,0,none⟩) 2 2))=W:=⟨_,rfl⟩;rw [Ea];obtain ⟨X,hX⟩:∃ X,(WA.alloc (.cells #[.string k,.string t,.int .i64 f,.int .i64 e,.slice sl sn sc,.string kb,.string tb,.int .i64 fb,.int .i64 eb,.slice ab nb cb] 49)).drew=X:=⟨_,rfl⟩;have AR:=PN.out;have Xt:=FZ.out;rw [hX] at AR Xt
      have hXZ:X.heap[WA.heap.size]?=some (.cells #[.string k,.string t,.int .i64 f,.int .i64 e,.slice sl sn sc,.string kb,.string tb,.int .i64 fb,.int .i64 eb,.slice ab nb cb] 49 (0,0)):=by rw [← hX];exact aG WA _
      have hXs:=(af.1 hXZ).1;have hsX:=AR.size;have hsP:=Xt.2.size
      have af2:q<WA.heap.size:=by omega
      have Wn:∀ g',g'≠q→WF.heap[g']?=wP.heap[g']?:=by
       intro g' hg';rw [← Ea]
       repeat rw [aj _ _ _ _ (by show g'≠q;omega)]
      have hFA:∀ g',g'<WA.heap.size→g'≠q→g'≠d→WF.heap[g']?=WA.heap[g']?:=fun g' h1 h2 h3=>(Wn g' h2).trans ((Xt.2.block g' (by omega) h3).trans (AR.block g' h1))
      have Ug:wP.heap[q]?=_:=((Xt.2.block q (by omega) (fun h=>qD h.symm)).trans (AR.block q af2)).trans HQA.out;have IJ:=dR (a':=.string ⟨#[98,105,110,97,114,121]⟩) (b':=.string (aX tt)) (c':=.int .i64 fr) (d':=.int .i64 (jZ L ob.at)) (e':=.slice (some ⟨WA.heap.size,0,none⟩) 2 2) Ug;rw [Ea] at IJ;have hFd:Rd d lv ob.at false WF:=(Wn d qD).trans Xt.1;have hFZ:WF.heap[WA.heap.size]?=_:=(Wn _ (by omega)).trans ((Xt.2.block _ (by omega) (by omega)).trans hXZ)
      have hsF:WF.heap.size=wP.heap.size:=by rw [← Ea];simp
      have hFM:Mv W1.heap.size d W1 WF:=(HMA.out.trans ((Mv.of_below AR).mono HMA.out.size)).trans ((Xt.2.mono (by have:=HMA.out.size;omega)).trans (by rw [← Ea];exact wJ Qi.out.2));have hw1:=dN.out.size;have hw2:=fC.out.mv.size;have hq0:=Qi.out
      have hPV:qp WF (fun g=>w.heap.size<g∧g≠q) (.ok (.mk dG tt fr (jZ L j) [a,x]) j) (.agg #[.string ⟨#[98,105,110,97,114,121]⟩,.string (aX tt),.int .i64 fr,.int .i64 (jZ L ob.at),.slice (some ⟨WA.heap.size,0,none⟩) 2 2]):=by
       refine kM hFZ ⟨by omega,by omega⟩ (fun p j' fK=>?_) (by omega) (ae _)
       injection fK with hp1 hp2
       subst hp1;refine ⟨dG,tt,[a,x],by rw [Wm],rfl,rfl,rfl,?_⟩;obtain ⟨k',t',f',e',a',n',c',h1,h2,h3⟩:=fC.out.part;have h4:=congrArg (fun v:Value=>match v with|.agg xs=>xs.toList|_=>[]) h1
       simp at h4
       obtain ⟨rfl,rfl,rfl,rfl,rfl,rfl,rfl⟩:=h4;obtain ⟨u1,u2⟩:=h3 a ja Zr;obtain ⟨v1,v2⟩:=Il.out x j Wl;have w1:=u2.later (W':=WF) (R':=fun g=>w.heap.size<g∧g≠q) (fun g' hg' hl=>(hFA g' (by omega) hg'.2 (by omega)).trans ((afZ.out.block g' (by omega) (by omega)).trans (nM.out.block g' hl))) (fun g' hg'=>hg');have w2:=v2.later (W':=WF) (R':=fun g=>w.heap.size<g∧g≠q) (fun g' hg' hl=>(hFA g' (by omega) (by omega) (by omega)).trans (Mo.block g' hl)) (fun g' hg'=>⟨by omega,by omega⟩)
       show aP WF _ _ (([.string k,.string t,.int .i64 f,.int .i64 e,.slice sl sn sc]:List Value)++([.string kb,.string tb,.int .i64 fb,.int .i64 eb,.slice ab nb cb]++[]))
       rw [jE u1,jE v1]
       exact ⟨_,_,rfl,w1,_,_,rfl,w2,rfl⟩
      have oJ:Hid (Cr d L lv n i b than (bQ L i) O w W1 q (.ok (.mk dG tt fr (jZ L j) [a,x]) j) ⟨#[98,105,110,97,114,121]⟩ (aX tt) fr (jZ L ob.at) (some ⟨WA.heap.size,0,none⟩) 2 2 m' WF):=hid ⟨by
        rw [q8.out,Wl,Zr,hfr2,htx]
        rfl,
       by rw [← Wm];exact hFd,hFM,IJ,hPV,by rw [← Wm];exact Wj,fun _=>by show i<j;omega,fun _=>by show m'<n∧8*(L.length - j)+3≤m';omega⟩
      have sU:Hid (L.length+1 - atR d WF<L.length+1 - atR d wr):=hid (by rw [hFd.at,hat];omega);clear hX hXZ Wn hFA Ug IJ hFd hFZ hsF hFM hPV Ea fu hat hfu hgt hle hoa hln hst hstr htx NJ hfr2 hfr Wl Zr Wm u0 u1 u2 u3 u4 v0 v1 v2 v3 v4 hSP hMP AR Xt hc0 hc1 hc2 hc3 hc4 Zn hc6 hc7 cP hS0
      go_wp2_with fail
      go_roundw
      case rel=>exact ⟨_,_,_,_,_,_,_,_,m',oJ⟩
      case measure=>exact sU.out
     ·rw [pO] at c2
      have oJ:Hid (Cr d L lv n i b than (bQ L i) O w W1 q (.bad ob.at) k t f e sl sn sc m' WA):=hid ⟨by
        rw [q8.out]
        cases ob with
        | ok a j=>cases pO
        | bad j=>rfl,
       by rw [pO] at Mq;exact Mq,hMA,hqA,⟨k,t,f,e,sl,sn,sc,rfl,hsn,fun p j h=>by cases h⟩,Wj,(fun h=>by cases h),(fun h=>by cases h)⟩
      have sU:Hid (L.length+1 - atR d WA<L.length+1 - atR d wr):=hid (by rw [Zp,hat];omega);clear Mq hMA hqA TC hkA Zp afW Wj fu hat hfu hgt hle hoa hln hst hstr htx NJ
      go_wp2_with fail
      go_roundw
      case rel=>exact ⟨_,k,t,f,e,sl,sn,sc,m',oJ⟩
      case measure=>exact sU.out
    ·have hO:O=o:=by
      rw [fC.out.out]
      cases o with
      | bad j=>cases fu
      | ok a j =>
       obtain ⟨m',rfl⟩:∃ m',m=m'+1:=⟨m - 1,by omega⟩;have hj:j=oa:=hoa
       show exprs L (m'+1) than _ a j=_
       rw [uR,ai (fun h=>hth (by rw [← hst,← hj];exact h.2))]
     have HO:=hid hO;clear hO fu hat hfu hgt hle hoa hln hst hstr htx x0 x1 x2 x3 x4 x5 x6 fz
     go_wp2_with fail
     have hp:=dR (a':=.string k) (b':=.string t) (c':=.int .i64 f) (d':=.int .i64 e) (e':=.slice sl sn sc) (show w6.heap[w.heap.size]?=_ from VU.out);refine aA (v:=.agg #[.string k,.string t,.int .i64 f,.int .i64 e,.slice sl sn sc]) (aQ rfl _ _ w.heap.size 49 #[.string k,.string t,.int .i64 f,.int .i64 e,.slice sl sn sc] (0,0) _ (by rfl) hp Tryz.underlying49 rfl (by kernel_rfl)) rfl ?_;rw [← HQ.out,HO.out]
     exact dM hd (dN.out.trans ((fC.out.mv.trans ((Mv.of_below nM.out).mono fC.out.mv.size)).mono dN.out.size)) (fC.out.rd.below nM.out) rfl rfl (fC.out.part.later (fun g _ hl=>nM.out.block g hl) (fun g hg=>hg.1)) ⟨ae _,ae _⟩
   obtain ⟨la,cap,hlv,_⟩:=Bz.out;rw [hlv,hln] at c0;rw [hoa] at c1
   have hO:O=o:=by
    rw [fC.out.out]
    cases o with
    | bad j=>cases fu
    | ok a j =>
     obtain ⟨m',rfl⟩:∃ m',m=m'+1:=⟨m - 1,by omega⟩;have hj:j=oa:=hoa
     show exprs L (m'+1) than _ a j=_
     rw [uR,ai (fun h=>hlt (by omega))]
   have HO:=hid hO;clear hO fu hat hfu hgt hle hoa hln
  rotate_left
  focus
   have c2:=fC.out.rd.c2;rw [fu] at c2
   have hO:O=o:=by
    rw [fC.out.out]
    cases o with
    | ok a j=>cases fu
    | bad j=>rfl
   have HO:=hid hO;clear hO fu hat
  rotate_left
  all_goals
   go_upto_region 3 with fail
   go_quiet (fail)
   go_wp2_with fail
   have hp:=dR (a':=.string k) (b':=.string t) (c':=.int .i64 f) (d':=.int .i64 e) (e':=.slice sl sn sc) (show (wr.drewN nq).heap[w.heap.size]?=_ from pY.out);refine aA (v:=.agg #[.string k,.string t,.int .i64 f,.int .i64 e,.slice sl sn sc]) (aQ rfl _ _ w.heap.size 49 #[.string k,.string t,.int .i64 f,.int .i64 e,.slice sl sn sc] (0,0) _ (by rfl) hp Tryz.underlying49 rfl (by kernel_rfl)) rfl ?_;rw [← HQ.out,HO.out]
   exact dM hd (dN.out.trans ((fC.out.mv.trans (((Mv.refl wr.heap.size d wr).drewN nq).mono fC.out.mv.size)).mono dN.out.size)) (fC.out.rd.drewN nq) rfl rfl (fC.out.part.later (fun g _ _=>rfl) (fun g hg=>hg.1)) ⟨ae _,ae _⟩
end T
end Go.Proofs.YtojoahlpgmnbnaaGreatDoor
