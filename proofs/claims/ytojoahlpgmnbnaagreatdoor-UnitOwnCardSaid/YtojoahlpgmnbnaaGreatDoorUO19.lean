/- What the claim needs of the texts TExpr. -/
import Derived.Test.YtojoahlpgmnbnaaGreatDoorUOOp
import Derived.Test.YtojoahlpgmnbnaaGreatDoorUO18
import Derived.Deep.RegionHeld3
set_option maxRecDepth 20000
set_option maxHeartbeats 16000000
namespace Go.Proofs.YtojoahlpgmnbnaaGreatDoor
namespace T
open Go.RowKit
open Go.Lib hiding intOf
open U S L
def Au (d:Nat) (L:List aZ) (lv:Value) (n:Nat):Prop:=∀ (than:Int) (i:Nat) (b:Bool) (w:World),Rd d lv i b w→Tk d L lv w→i≤L.length→(b=false→8*(L.length - i)+3≤n) →
 Calls Tryz.prog 110 #[.pointer (some ⟨d,0,none⟩),.int .i64 than] w (Reads d lv (start b i (expr L n than i)) w)
def wz (d:Nat) (L:List aZ) (lv:Value) (n:Nat):Prop:=∀ (i:Nat) (b:Bool) (w:World),Rd d lv i b w→Tk d L lv w→i≤L.length→(b=false→8*(L.length - i)+2≤n) →
 Calls Tryz.prog 128 #[.pointer (some ⟨d,0,none⟩)] w (Reads d lv (start b i (cu L n i)) w)
def wW (d:Nat) (L:List aZ) (lv:Value) (n:Nat):Prop:=∀ (i:Nat) (b:Bool) (w:World),Rd d lv i b w→Tk d L lv w→i≤L.length→(b=false→8*(L.length - i)+1≤n) →
 Calls Tryz.prog 141 #[.pointer (some ⟨d,0,none⟩)] w (Reads d lv (start b i (operand L n i)) w)
def Out.pt (o:Out Pt):Pt:=match o with
 | .ok a _=>a
 | .bad _=>.mk [] [] 0 0 []
theorem qh.later {W W':World} {R R':Nat→Prop} {o:Out Pt} {v:Value} (h:qh W R o v) (hs:Still R W W') (hR:∀ g,R g→R' g):qh W' R' o v:=by
 obtain ⟨k,t,f,e,a,n,c,h1,h2,h3⟩:=h
 exact ⟨k,t,f,e,a,n,c,h1,h2,fun p j hp=>⟨(h3 p j hp).1,(h3 p j hp).2.later hs hR⟩⟩
theorem AO {c:Prop} [Decidable c] {A B:Prop} (hc:c) (hA:A):if c then A else B:=by rw [ay hc];exact hA
theorem Hu {o:Oper} {a:Act} (x y g off n i c:Nat) (W:World) (ho:o.op=.indexAddr 79 (.tmp x) (.tmp y)) (h1:a.eval (.tmp x)=.slice (some ⟨g,off,none⟩) n c) (h2:a.eval (.tmp y)=.int .i64 i) (hin:i<n):(execOp a.eval o).run Tryz.prog W=.ok (.value (.pointer (some ⟨g,off+i*4,none⟩))) W:=by
 have hm:(0:Int)≤(i:Int):=by omega
 have hm2:(i:Int)<(n:Int):=by omega
 have hr:(Instr.indexAt 79 (.slice (some ⟨g,off,none⟩) n c) (.int .i64 i)).run Tryz.prog W=.ok (.pointer (some ⟨g,off+i*4,none⟩)) W:=by
  simp [go_sem]
  intro h
  omega
 unfold execOp
 rw [ho];simp only [h1,h2,iV,hr,eP,iW]
structure Cb (d:Nat) (L:List aZ) (lv:Value) (n i:Nat) (b:Bool) (than fr:Int) (O:Out Pt) (w W1:World) (q:Nat) (o:Out Pt) (k t:ByteArray) (f e:Int) (sl:Option Addr) (sn sc:Nat) (m:Nat) (W:World):Prop where
 out:O=o.next fun a j=>exprs L m than fr a j
 rd:Rd d lv o.at o.aA W
 mv:Mv W1.heap.size d W1 W
 box:W.heap[q]?=some (.cells #[.string k,.string t,.int .i64 f,.int .i64 e,.slice sl sn sc] 49 (0,0))
 part:qh W (fun g=>w.heap.size<g∧g≠q) o (.agg #[.string k,.string t,.int .i64 f,.int .i64 e,.slice sl sn sc])
 le:o.at≤L.length
 gt:o.aA=false→i<o.at
 fuel:o.aA=false→m<n∧8*(L.length - o.at)+3≤m
theorem Po (d:Nat) (L:List aZ) (lv:Value) (hL:L.length≤1000000) (n:Nat) (ihP:∀ m,n=m+1∨m=0→wz d L lv m) (ih:∀ m,m<n→Au d L lv m):Au d L lv n:=by
 intro than i b w hR hT hi hn;have hd:=hR.lt;obtain ⟨W1,hW1⟩:∃ W1,w.alloc gB=W1:=⟨_,rfl⟩
 have hb1:Below w.heap.size w W1:=by rw [← hW1];exact (aj _ w).alloc (ae _) _
 have dP:=hid (Mv.of_below (d:=d) hb1)
 have hq1:W1.heap[w.heap.size]?=some (.cells #[.string ⟨#[]⟩,.string ⟨#[]⟩,.int .i64 0,.int .i64 0,.slice none 0 0] 49 (0,0)):=by rw [← hW1];exact aG w _
 have lL:Rd d lv i b W1:=hR.below hb1;have hT1:=hT.mv (Mv.of_below hb1) (ae _);have k1:=lL.c1;obtain ⟨O,hO⟩:∃ O,start b i (expr L n than i)=O:=⟨_,rfl⟩;rw [hO];obtain ⟨Q,hQ⟩:∃ Q,Reads d lv O w=Q:=⟨_,rfl⟩;have HQ:=hid hQ;rw [hQ]
 obtain ⟨m0,o,ho,hOo,hfu⟩:∃ m0 o,start b i (cu L m0 i)=o∧O=o.next (fun a j=>exprs L m0 than (bQ L i) a j)∧(o.aA=false→m0<n∧8*(L.length - o.at)+3≤m0)∧(n=m0+1∨m0=0)∧(b=false→8*(L.length - i)+2≤m0):=by
  cases b
  ·have h1:=hn rfl
   obtain ⟨m,rfl⟩:∃ m,n=m+1:=⟨n - 1,by omega⟩;refine ⟨m,_,rfl,by rw [← hO,aW,FL,aW],?_,.inl rfl,fun _=>by omega⟩;intro hb;have:=((iK m).cu i hi).gt hb;have:=((iK m).cu i hi).le;rw [aW]
   omega
  ·exact ⟨0,.bad i,rfl,hO.symm,(fun h=>by cases h),.inr rfl,(fun h=>by cases h)⟩
 have hfw:oZ L i b o:=by rw [← ho];exact .begun hi ((iK m0).cu i hi).toFw
 have hgt:o.aA=false→i<o.at:=by
  rw [← ho]
  cases b
  ·exact ((iK m0).cu i hi).gt
  ·intro h;cases h
 have HIP:=hid (ihP m0 hfu.2.1 i b W1 lL hT1 hi hfu.2.2);have HI:=hid ih;have qW:=hid hOo;have HF:=hid hfw;have HGT:=hid hgt;have HFU:=hid hfu.1;have HW1:=hid hW1;have jD:=hid hq1;have HR1:=hid lL;have HT1:=hid hT1;rw [ho] at HIP;clear hO hQ hfu hOo hfw hgt hq1 lL hT1 hb1 hR hT ih ihP hn ho
 go_enter Tryz.func110,Tryz.ntmps110
 go_wp2_with fail
 clear hW1;refine HIP.out.mono ?_;rintro x w4 ⟨v,rfl,⟨k,t,f,e,sl,sn,sc,rfl,hnn,hv⟩,hw4⟩;obtain ⟨q,hq⟩:∃ q,w4.heap.size=q:=⟨_,rfl⟩;have HV:=hid hv;have uW:=hid hw4;clear hv hw4
 go_upto_region 3 with fail
 obtain ⟨W5,Hm⟩:∃ W5,w4.alloc (.cells #[.string k,.string t,.int .i64 f,.int .i64 e,.slice sl sn sc] 49)=W5:=⟨_,rfl⟩
 have hb5:Below w4.heap.size w4 W5:=by rw [← Hm];exact (aj _ w4).alloc (ae _) _
 have xO:W5.heap[q]?=some (.cells #[.string k,.string t,.int .i64 f,.int .i64 e,.slice sl sn sc] 49 (0,0)):=by rw [← Hm,← hq];exact aG w4 _
 rw [Hm]
 have ow:w.heap.size<q∧W1.heap.size≤q:=by
  have h1:=(af.1 jD.out).1;have h2:=uW.out.2.size
  omega
 have hin:Cb d L lv n i b than (bQ L i) O w W1 q o k t f e sl sn sc m0 W5 :=
  ⟨qW.out,uW.out.1.below hb5,uW.out.2.trans (Mv.of_below (hb5.mono uW.out.2.size)),xO,
   ⟨k,t,f,e,sl,sn,sc,rfl,hnn,fun p j hp=>⟨(HV.out p j hp).1,(aT.live _ _ (HV.out p j hp).2).later (Mv.still (B:=w4.heap.size) (d:=d) (Mv.of_below hb5) (ae _) (fun g hg=>by have:=(af.1 jD.out).1;omega)) (fun g hg=>by have:=(af.1 jD.out).1;omega)⟩⟩,HF.out.le,HGT.out,HFU.out⟩
 have fG:=hid hin;have P4:=hid ow;clear hin Hm hb5 xO ow hnn HV uW HFU HGT HF qW k1 HIP
 go_loopw [] (fun wr=>∃ (o:Out Pt) (k t:ByteArray) (f e:Int) (sl:Option Addr) (sn sc m:Nat),Hid (Cb d L lv n i b than (bQ L i) O w W1 q o k t f e sl sn sc m wr)) (fun wr=>L.length+1 - atR d wr)
 case atStart=>exact ⟨o,k,t,f,e,sl,sn,sc,m0,fG⟩
 case round =>
  clear fG;obtain ⟨o,k,t,f,e,sl,sn,sc,m,fG⟩:=hrel;have hat:=fG.out.rd.at;obtain ⟨⟨p0,p1,p2,p3,p4⟩,-⟩:=aF fG.out.box;have jd:wr.heap[w.heap.size]?=_:=(fG.out.mv.block w.heap.size (af.1 jD.out).1 (by omega)).trans jD.out;obtain ⟨⟨r0,r1,r2,r3,r4⟩,gz⟩:=aF jd;have g0:=gz 0;have g1:=gz 1;have g2:=gz 2;have g3:=gz 3;have g4:=gz 4;have pQ:=hid jd;clear gz jd
  cases fw:o.aA
  focus
   have c2:=fG.out.rd.c2;rw [fw] at c2;have c1:=fG.out.rd.c1;have c0:=fG.out.rd.c0;have hfu:=fG.out.fuel fw;have hgt:=fG.out.gt fw;have hle:=fG.out.le;have Bh:=hid (HT1.out.mv fG.out.mv (ae _));obtain ⟨oa,hoa⟩:∃ u,o.at=u:=⟨_,rfl⟩;obtain ⟨ln,hln⟩:∃ u,L.length=u:=⟨_,rfl⟩
   by_cases hlt:oa<ln
   ·obtain ⟨g,off,cap,hlv,hgd,t0,t1,t2,t3⟩:=lI (i:=oa) Bh.out (by omega)
    rw [hlv,hln] at c0
    have hstr:fI L oa=vg L[oa]:=by unfold fI;rw [aC (by omega)]
    have htx:dz L oa=L[oa].t:=by unfold dz;rw [aC (by omega)]
    have cS:=zu L[oa];rw [← hstr] at cS;rw [hoa] at c1;obtain ⟨st,hst⟩:∃ u,fI L oa=u:=⟨_,rfl⟩;rw [hst] at cS;have Nj:=hstr;generalize L[oa]=tk at t0 t1 t2 t3 cS htx Nj;obtain ⟨tw,tt,tf,te⟩:=tk;dsimp only at t0 t1 t2 t3 cS htx;rw [show (⟨tt.toArray⟩:ByteArray)=aU tt from rfl] at t1;have hdr:d<wr.heap.size:=fG.out.rd.lt;have hgr:g<wr.heap.size:=bB wr _ t0;obtain ⟨S,hS⟩:∃ S:World→Prop,S=(fun X=>X.cell? ⟨d,0,none⟩=some (.slice (some ⟨g,off,none⟩) ln cap)∧X.cell? ⟨d,1,none⟩=some (.int .i64 oa)∧X.cell? ⟨d,2,none⟩=some (.bool false)∧X.cell? ⟨g,off+oa*4,none⟩=some (.int .i64 tw)∧X.cell? ⟨g,off+oa*4+1,none⟩=some (.string (aU tt))∧X.cell? ⟨g,off+oa*4+2,none⟩=some (.int .i64 tf)∧X.cell? ⟨g,off+oa*4+3,none⟩=some (.int .i64 te)∧Below wr.heap.size wr X):=⟨_,rfl⟩
    have cS2:∀ X,S X→Calls Tryz.prog 129 #[.agg #[.int .i64 tw,.string (aU tt),.int .i64 tf,.int .i64 te]] X fun e w'=>e=.returned (.int .i64 st)∧S w':=by
     intro X hX;rw [hS] at hX ⊢;obtain ⟨x0,x1,x2,x3,x4,x5,x6,x7⟩:=hX;have hsz:=x7.size;refine (cS X).mono ?_;rintro e w' ⟨rfl,h2⟩
     exact ⟨rfl,(h2.cell (p:=⟨d,0,none⟩) (by simp only;omega)).trans x0,(h2.cell (p:=⟨d,1,none⟩) (by simp only;omega)).trans x1,(h2.cell (p:=⟨d,2,none⟩) (by simp only;omega)).trans x2,(h2.cell (p:=⟨g,off+oa*4,none⟩) (by simp only;omega)).trans x3,(h2.cell (p:=⟨g,off+oa*4+1,none⟩) (by simp only;omega)).trans x4,(h2.cell (p:=⟨g,off+oa*4+2,none⟩) (by simp only;omega)).trans x5,(h2.cell (p:=⟨g,off+oa*4+3,none⟩) (by simp only;omega)).trans x6,x7.trans (h2.mono hsz)⟩
    have hS0:S wr.drew:=by rw [hS];exact ⟨c0,c1,c2,t0,t1,t2,t3,(aj _ _).drew⟩
    rw [hS] at cS2 hS0;clear hS cS
    go_upto_region 3 with fail
    go_region_held3 (fun X=>X.cell? ⟨d,0,none⟩=some (.slice (some ⟨g,off,none⟩) ln cap)∧X.cell? ⟨d,1,none⟩=some (.int .i64 oa)∧X.cell? ⟨d,2,none⟩=some (.bool false)∧X.cell? ⟨g,off+oa*4,none⟩=some (.int .i64 tw)∧X.cell? ⟨g,off+oa*4+1,none⟩=some (.string (aU tt))∧X.cell? ⟨g,off+oa*4+2,none⟩=some (.int .i64 tf)∧X.cell? ⟨g,off+oa*4+3,none⟩=some (.int .i64 te)∧Below wr.heap.size wr X) (with_reducible (repeat (first|assumption))) (first|(go_at_call 129;(with_reducible refine (cS2 _ ?_).mono ?_);assumption;rintro e3 w6 ⟨rfl,hS6⟩))
    have Ko:=hS6.2.2.2.2.2.2.2;obtain ⟨x0,x1,x2,x3,x4,x5,x6,-⟩:=hS6;have Il:=(Ko.block q (af.1 fG.out.box).1).trans fG.out.box;have hz6:=(Ko.block w.heap.size (af.1 pQ.out).1).trans pQ.out;have qP:=hid Ko;have VG:=hid hz6;have HK6:=hid Il;obtain ⟨⟨p0,p1,p2,p3,p4⟩,fz⟩:=aF Il;obtain ⟨⟨r0,r1,r2,r3,r4⟩,gz⟩:=aF hz6;have g0:=gz 0;have g1:=gz 1;have g2:=gz 2;have g3:=gz 3;have g4:=gz 4;clear Ko Il hz6 c0 c1 c2 t0 t1 t2 t3 cS2 hS0 gz
    by_cases hth:than<st
    ·clear r0 r1 r2 r3 r4 g0 g1 g2 g3 g4
     have f1:=(fG.out.rd.below qP.out).f1
     go_upto_region 4 with fail
     have hd6:d<w6.heap.size:=aD hdr qP.out.size;have Pb:g<w6.heap.size:=aD hgr qP.out.size
     have hc0:∀ X,Below w6.heap.size w6 X→X.cell? ⟨d,0,none⟩=some (.slice (some ⟨g,off,none⟩) ln cap):=fun X h=>(h.cell (p:=⟨d,0,none⟩) (by simp only;omega)).trans x0
     have hc1:∀ X,Below w6.heap.size w6 X→X.cell? ⟨d,1,none⟩=some (.int .i64 oa):=fun X h=>(h.cell (p:=⟨d,1,none⟩) (by simp only;omega)).trans x1
     have hc2:∀ X,Below w6.heap.size w6 X→X.cell? ⟨g,off+oa*4,none⟩=some (.int .i64 tw):=fun X h=>(h.cell (p:=⟨g,off+oa*4,none⟩) (by simp only;omega)).trans x3
     have hc3:∀ X,Below w6.heap.size w6 X→X.cell? ⟨g,off+oa*4+1,none⟩=some (.string (aU tt)):=fun X h=>(h.cell (p:=⟨g,off+oa*4+1,none⟩) (by simp only;omega)).trans x4
     have hc4:∀ X,Below w6.heap.size w6 X→X.cell? ⟨g,off+oa*4+2,none⟩=some (.int .i64 tf):=fun X h=>(h.cell (p:=⟨g,off+oa*4+2,none⟩) (by simp only;omega)).trans x5
     have Y2:∀ X,Below w6.heap.size w6 X→X.cell? ⟨g,off+oa*4+3,none⟩=some (.int .i64 te):=fun X h=>(h.cell (p:=⟨g,off+oa*4+3,none⟩) (by simp only;omega)).trans x6
     have hS0:(fun X=>X.cell? ⟨d,0,none⟩=some (.slice (some ⟨g,off,none⟩) ln cap)∧X.cell? ⟨d,1,none⟩=some (.int .i64 oa)∧X.cell? ⟨g,off+oa*4,none⟩=some (.int .i64 tw)∧X.cell? ⟨g,off+oa*4+1,none⟩=some (.string (aU tt))∧X.cell? ⟨g,off+oa*4+2,none⟩=some (.int .i64 tf)∧X.cell? ⟨g,off+oa*4+3,none⟩=some (.int .i64 te)∧Below w6.heap.size w6 X) w6.drew:=⟨x0,x1,x3,x4,x5,x6,(aj _ _).drew⟩;dsimp only at hS0
     go_region_held3 (fun X=>X.cell? ⟨d,0,none⟩=some (.slice (some ⟨g,off,none⟩) ln cap)∧X.cell? ⟨d,1,none⟩=some (.int .i64 oa)∧X.cell? ⟨g,off+oa*4,none⟩=some (.int .i64 tw)∧X.cell? ⟨g,off+oa*4+1,none⟩=some (.string (aU tt))∧X.cell? ⟨g,off+oa*4+2,none⟩=some (.int .i64 tf)∧X.cell? ⟨g,off+oa*4+3,none⟩=some (.int .i64 te)∧Below w6.heap.size w6 X) (with_reducible (repeat (first|assumption|refine And.intro ?_ ?_|exact aj _ _|refine Below.drew ?_|refine Below.alloc ?_ (ae _) _|refine Below.setCell ?_ (ae _) _|refine hc0 _ ?_|refine hc1 _ ?_|refine hc2 _ ?_|refine hc3 _ ?_|refine hc4 _ ?_|refine Y2 _ ?_))) (first|fail)
     clear hc0 hc1 hc2 hc3 hc4 Y2 hS0;have e1:IntKind.i64.wrap ((oa:Int)+1)=(oa:Int)+1:=bg _ (by omega)
     go_upto_region 6 with fail
     obtain ⟨W7,TW⟩:∃ W7,((w6.setCell ⟨d,1,none⟩ (.int .i64 ((oa:Int)+1))).alloc (.cells #[.int .i64 tw,.string (aU tt),.int .i64 tf,.int .i64 te] 86)).drew=W7:=⟨_,rfl⟩;rw [TW]
     have hR7:Rd d lv (oa+1) false W7:=by
      rw [← TW];have h1:Rd d lv o.at o.aA w6:=fG.out.rd.below qP.out;rw [fw] at h1
      exact (h1.set1 ((oa:Int)+1) (by simp)).below ((aj _ _).alloc (ae _) _).drew
     have hM7:Mv w6.heap.size d w6 W7:=by
      rw [← TW]
      have hsz:(w6.setCell ⟨d,1,none⟩ (.int .i64 ((oa:Int)+1))).heap.size=w6.heap.size:=by simp
      exact ((Mv.refl _ _ _).setCell 1 _).trans (Mv.of_below ((aj _ _).alloc (Nat.le_of_eq hsz.symm) _).drew)
     have Z9:W7.heap[w6.heap.size]?=some (.cells #[.int .i64 tw,.string (aU tt),.int .i64 tf,.int .i64 te] 86 (0,0)):=by
      rw [← TW];have h1:=aG (w6.setCell ⟨d,1,none⟩ (.int .i64 ((oa:Int)+1))) (.cells #[.int .i64 tw,.string (aU tt),.int .i64 tf,.int .i64 te] 86);rw [show (w6.setCell ⟨d,1,none⟩ (.int .i64 ((oa:Int)+1))).heap.size=w6.heap.size by simp] at h1
      exact h1
     have m0':W7.cell? ⟨w6.heap.size,0,none⟩=some (.int .i64 tw):=by simp [World.cell?,Z9]
     have m1':W7.cell? ⟨w6.heap.size,1,none⟩=some (.string (aU tt)):=by simp [World.cell?,Z9]
     have m2':W7.cell? ⟨w6.heap.size,2,none⟩=some (.int .i64 tf):=by simp [World.cell?,Z9]
     have m3':W7.cell? ⟨w6.heap.size,3,none⟩=some (.int .i64 te):=by simp [World.cell?,Z9]
     obtain ⟨m',rfl⟩:∃ m',m=m'+1:=⟨m - 1,by omega⟩;have HIX:=HI.out m' (by omega) st (oa+1) false;rw [aW] at HIX;obtain ⟨ob,Y3⟩:∃ u,expr L m' st (oa+1)=u:=⟨_,rfl⟩;rw [Y3] at HIX
     have hbf:vW L (oa+1) ob:=by rw [← Y3];exact (iK m').expr (oa+1) (by omega) st
     have qW:Hid (O=ob.next fun x j=>exprs L m' than (bQ L i) (.mk dI (dz L oa) (bQ L i) (jY L j) [o.pt,x]) j):=hid (by
      rw [fG.out.out]
      cases o with
      | bad j=>cases fw
      | ok a j =>
       have hj:j=oa:=hoa
       show exprs L (m'+1) than _ a j=_
       rw [uH,hj,ay ⟨by omega,by rw [hst];exact hth⟩,hst,Y3]
       rfl)
     have cX:=zu ⟨tw,tt,tf,te⟩ W7
     have hfin:vg ⟨tw,tt,tf,te⟩=st:=by rw [← hst,Nj]
     rw [hfin] at cX;have hfz:b=b:=rfl;have hT7:=Bh.out.mv ((Mv.of_below qP.out).trans (hM7.mono qP.out.size)) (ae _);have iN:=hid hM7;have sw:=hid hR7;have HT7:=hid hT7;have Vy:=hid Z9;have W9:=hid hbf;have afv:=hid HIX;clear hR7 hM7 hT7 Z9 TW hbf hfz hfin x0 x1 x2 x3 x4 x5 x6 p0 p1 p2 p3 p4 fz HIX
     go_wp2_with fail
     refine cX.mono ?_;rintro e3 w8 ⟨rfl,qJ⟩;have c9:=afv.out w8 (sw.out.below qJ) (HT7.out.mv (Mv.of_below qJ) (ae _)) (by omega) (fun _=>by omega);have WX:=hid qJ;clear cX qJ
     go_wp2_with fail
     refine c9.mono ?_;rintro x w9 ⟨v,rfl,⟨kb,tb,fb,eb,ab,nb,cb,rfl,hnb,hvb⟩,dV⟩;have Hw:=hid hvb;have Nk:=hid dV;clear c9 hvb dV
     go_upto_region 7 with fail
     obtain ⟨qb,Av⟩:∃ q,w9.heap.size=q:=⟨_,rfl⟩;obtain ⟨WA,hWA⟩:∃ W,w9.alloc (.cells #[.string kb,.string tb,.int .i64 fb,.int .i64 eb,.slice ab nb cb] 49)=W:=⟨_,rfl⟩
     have L5:Below w9.heap.size w9 WA:=by rw [← hWA];exact (aj _ w9).alloc (ae _) _
     have hkA:WA.heap[qb]?=some (.cells #[.string kb,.string tb,.int .i64 fb,.int .i64 eb,.slice ab nb cb] 49 (0,0)):=by rw [← hWA,← Av];exact aG w9 _
     rw [hWA,Av];have L6:Rd d lv ob.at ob.aA WA:=Nk.out.1.below L5;have z78:=iN.out.size;have z89:=WX.out.size;have z9:=Nk.out.2.size;have zA:=L5.size;have z6:=qP.out.size;have Ti:Mv w6.heap.size d w6 WA:=((iN.out.trans ((Mv.of_below WX.out).mono z78)).trans (Nk.out.2.mono (by omega))).trans ((Mv.of_below L5).mono (by omega));have hMA:Mv W1.heap.size d W1 WA:=(fG.out.mv.trans ((Mv.of_below qP.out).mono fG.out.mv.size)).trans (Ti.mono (by have:=fG.out.mv.size;omega));have hqA:WA.heap[q]?=_:=(Ti.block q (af.1 HK6.out).1 (by have:=P4.out;have:=dP.out.size;omega)).trans HK6.out;have Y4:=L6.at;have afy:=W9.out.ge;have VR:=W9.out.le
     have hsn:sn≤1000000:=by
      obtain ⟨k',t',f',e',a',n',c',h1,h2,_⟩:=fG.out.part;have h3:=congrArg (fun v:Value=>match v with|.agg xs=>xs.toList|_=>[]) h1
      simp at h3
      omega
     have c2:=L6.c2
     cases pG:ob.aA
     ·rw [pG] at c2 L6
      have hil:i<L.length:=by omega
      have HTA:=hid (HT1.out.mv hMA (ae _));obtain ⟨g2,ajD,cap2,hlv2,_,y0,y1,y2,y3⟩:=lI (i:=i) HTA.out hil;rw [hlv] at hlv2
      injection hlv2 with i1 i2 i3
      injection i1 with i1
      injection i1 with i1 i4 i5
      subst i1;subst i4;have c0:=L6.c0;rw [hlv,hln] at c0
      have hfr:bQ L i=L[i].f:=by unfold bQ;rw [aC hil]
      rw [← hfr] at y2;obtain ⟨fr,hfr2⟩:∃ fr,bQ L i=fr:=⟨_,rfl⟩;rw [hfr2] at y2;obtain ⟨⟨p0,p1,p2,p3,p4⟩,gz⟩:=aF hqA;obtain ⟨⟨b0,b1,b2,b3,b4⟩,-⟩:=aF hkA;have g0:=gz 0;have g1:=gz 1;have g2':=gz 2;have g3:=gz 3;have g4:=gz 4;have z67:=(af.1 Vy.out).1;have hmk:WA.heap[w6.heap.size]?=_:=(L5.block _ (by omega)).trans ((Nk.out.2.block w6.heap.size (by omega) (by have:=dP.out.size;have:=fG.out.mv.size;omega)).trans ((WX.out.block _ (af.1 Vy.out).1).trans Vy.out))
      have mk1:WA.cell? ⟨w6.heap.size,1,none⟩=some (.string (aU tt)):=by simp [World.cell?,hmk]
      clear y0 y1 y3 gz;have hgA:g<WA.heap.size:=bB WA _ y2;have ajE:qb<WA.heap.size:=bB WA _ b0;have hmA:w6.heap.size<WA.heap.size:=bB WA _ mk1;have hdA:d<WA.heap.size:=L6.lt;have ajF:q<w6.heap.size:=(af.1 HK6.out).1
      have qz:d≠q:=by have:=P4.out;omega
      have hgq:g≠q:=by
       obtain ⟨la,cap',h1,h2⟩:=HT1.out
       rcases h2 with h2|⟨g',off',h3,_,h5,_⟩
       ·rw [h2] at hil;exact absurd hil (bq _)
       ·rw [hlv,h3] at h1
        injection h1 with h1
        injection h1 with h1
        injection h1 with h1
        have:=P4.out
        omega
      have VS:∀ {X:World} {p:Addr},Mv WA.heap.size q WA X→p.block<WA.heap.size→p.block≠q→X.cell? p=WA.cell? p:=by
       intro X p h h1 h2;have h3:=h.block p.block h1 h2
       unfold World.cell?
       rw [h3]
      have hc0:∀ X,Mv WA.heap.size q WA X→X.cell? ⟨d,0,none⟩=some (.slice (some ⟨g,off,none⟩) ln cap):=fun X h=>(VS (p:=⟨d,0,none⟩) h (by simp only;omega) (by simp only;omega)).trans c0
      have hc1:∀ X,Mv WA.heap.size q WA X→X.cell? ⟨g,off+i*4+2,none⟩=some (.int .i64 fr):=fun X h=>(VS (p:=⟨g,off+i*4+2,none⟩) h (by simp only;omega) (by simp only;omega)).trans y2
      have hc2:∀ X,Mv WA.heap.size q WA X→X.cell? ⟨qb,0,none⟩=some (.string kb):=fun X h=>(VS (p:=⟨qb,0,none⟩) h (by simp only;omega) (by simp only;omega)).trans b0
      have hc3:∀ X,Mv WA.heap.size q WA X→X.cell? ⟨qb,1,none⟩=some (.string tb):=fun X h=>(VS (p:=⟨qb,1,none⟩) h (by simp only;omega) (by simp only;omega)).trans b1
      have hc4:∀ X,Mv WA.heap.size q WA X→X.cell? ⟨qb,2,none⟩=some (.int .i64 fb):=fun X h=>(VS (p:=⟨qb,2,none⟩) h (by simp only;omega) (by simp only;omega)).trans b2
      have Y2:∀ X,Mv WA.heap.size q WA X→X.cell? ⟨qb,3,none⟩=some (.int .i64 eb):=fun X h=>(VS (p:=⟨qb,3,none⟩) h (by simp only;omega) (by simp only;omega)).trans b3
      have hc6:∀ X,Mv WA.heap.size q WA X→X.cell? ⟨qb,4,none⟩=some (.slice ab nb cb):=fun X h=>(VS (p:=⟨qb,4,none⟩) h (by simp only;omega) (by simp only;omega)).trans b4
      have SA:∀ X,Mv WA.heap.size q WA X→X.cell? ⟨w6.heap.size,1,none⟩=some (.string (aU tt)):=fun X h=>(VS (p:=⟨w6.heap.size,1,none⟩) h (by simp only;omega) (by simp only;omega)).trans mk1
      have hS0:(fun X=>X.cell? ⟨d,0,none⟩=some (.slice (some ⟨g,off,none⟩) ln cap)∧X.cell? ⟨g,off+i*4+2,none⟩=some (.int .i64 fr)∧X.cell? ⟨qb,0,none⟩=some (.string kb)∧X.cell? ⟨qb,1,none⟩=some (.string tb)∧X.cell? ⟨qb,2,none⟩=some (.int .i64 fb)∧X.cell? ⟨qb,3,none⟩=some (.int .i64 eb)∧X.cell? ⟨qb,4,none⟩=some (.slice ab nb cb)∧X.cell? ⟨w6.heap.size,1,none⟩=some (.string (aU tt))∧Mv WA.heap.size q WA X) WA.drew:=⟨c0,y2,b0,b1,b2,b3,b4,mk1,(Mv.refl _ _ _).drewN 1⟩;dsimp only at hS0;have Aw:Below WA.heap.size WA ((WA.alloc (.cells #[.string k,.string t,.int .i64 f,.int .i64 e,.slice sl sn sc,.string kb,.string tb,.int .i64 fb,.int .i64 eb,.slice ab nb cb] 49)).drew):=((aj _ _).alloc (ae _) _).drew
      have cP:∀ X,Below WA.heap.size WA X→(X.cell? ⟨d,0,none⟩=some (.slice (some ⟨g,off,none⟩) ln cap)∧X.cell? ⟨g,off+i*4+2,none⟩=some (.int .i64 fr)∧X.cell? ⟨qb,0,none⟩=some (.string kb)∧X.cell? ⟨qb,1,none⟩=some (.string tb)∧X.cell? ⟨qb,2,none⟩=some (.int .i64 fb)∧X.cell? ⟨qb,3,none⟩=some (.int .i64 eb)∧X.cell? ⟨qb,4,none⟩=some (.slice ab nb cb)∧X.cell? ⟨w6.heap.size,1,none⟩=some (.string (aU tt))∧Mv WA.heap.size q WA X)→Calls Tryz.prog 66 #[.pointer (some ⟨d,0,none⟩),.string ⟨#[98,105,110,97,114,121]⟩,.string (aU tt),.int .i64 fr,.slice (some ⟨WA.heap.size,0,none⟩) 2 2] X fun en w'=>en=.returned (.agg #[.string ⟨#[98,105,110,97,114,121]⟩,.string (aU tt),.int .i64 fr,.int .i64 (jY L ob.at),.slice (some ⟨WA.heap.size,0,none⟩) 2 2])∧(w'.cell? ⟨d,0,none⟩=some (.slice (some ⟨g,off,none⟩) ln cap)∧w'.cell? ⟨g,off+i*4+2,none⟩=some (.int .i64 fr)∧w'.cell? ⟨qb,0,none⟩=some (.string kb)∧w'.cell? ⟨qb,1,none⟩=some (.string tb)∧w'.cell? ⟨qb,2,none⟩=some (.int .i64 fb)∧w'.cell? ⟨qb,3,none⟩=some (.int .i64 eb)∧w'.cell? ⟨qb,4,none⟩=some (.slice ab nb cb)∧w'.cell? ⟨w6.heap.size,1,none⟩=some (.string (aU tt))∧Mv WA.heap.size q WA w')∧Hid (kz d lv ob.at false X w')∧w'.cell? ⟨q,0,none⟩=some (.string k)∧w'.cell? ⟨q,1,none⟩=some (.string t)∧w'.cell? ⟨q,2,none⟩=some (.int .i64 f)∧w'.cell? ⟨q,3,none⟩=some (.int .i64 e)∧w'.cell? ⟨q,4,none⟩=some (.slice sl sn sc)∧(w'.frozen? ⟨q,0,none⟩=false∧w'.frozen? ⟨q,1,none⟩=false∧w'.frozen? ⟨q,2,none⟩=false∧w'.frozen? ⟨q,3,none⟩=false∧w'.frozen? ⟨q,4,none⟩=false):=by
       intro X hX _;refine (eZ d L lv ob.at false ⟨#[98,105,110,97,114,121]⟩ (aU tt) fr _ 2 2 X (L6.below hX) (HTA.out.mv (Mv.of_below hX) (ae _)) VR hL).mono ?_;rintro e w' ⟨rfl,h2⟩;have h3:Mv WA.heap.size d WA w':=(Mv.of_below hX).trans (h2.2.mono hX.size)
       have h4:Below WA.heap.size WA w':=⟨h3.os,h3.tape,h3.output,h3.size,fun g' hg'=>by
        by_cases hd':g'=d
        ·subst hd';exact h2.1.trans L6.symm
        ·exact h3.block g' hg' hd'⟩
       have h5:Mv WA.heap.size q WA w':=Mv.of_below h4;obtain ⟨⟨u0,u1,u2,u3,u4⟩,uz⟩:=aF ((h4.block q (by omega)).trans hqA)
       exact ⟨rfl,⟨hc0 _ h5,hc1 _ h5,hc2 _ h5,hc3 _ h5,hc4 _ h5,Y2 _ h5,hc6 _ h5,SA _ h5,h5⟩,hid h2,u0,u1,u2,u3,u4,uz 0,uz 1,uz 2,uz 3,uz 4⟩
      have HRA:=hid L6;have afA:=hid Ti;have HMA:=hid hMA;have HQA:=hid hqA;have Pp:=hid Aw;clear VS hkA hmk Y4 Ti hMA
      have hii:(i:Int)<(ln:Int):=by omega
      have Pq:(0:Int)≤(i:Int):=by omega
      go_upto_region 8 with fail
      refine aS (S:=fun X=>X.cell? ⟨d,0,none⟩=some (.slice (some ⟨g,off,none⟩) ln cap)∧X.cell? ⟨g,off+i*4+2,none⟩=some (.int .i64 fr)∧X.cell? ⟨qb,0,none⟩=some (.string kb)∧X.cell? ⟨qb,1,none⟩=some (.string tb)∧X.cell? ⟨qb,2,none⟩=some (.int .i64 fb)∧X.cell? ⟨qb,3,none⟩=some (.int .i64 eb)∧X.cell? ⟨qb,4,none⟩=some (.slice ab nb cb)∧X.cell? ⟨w6.heap.size,1,none⟩=some (.string (aU tt))∧Mv WA.heap.size q WA X) (by kernel_rfl) hS0 fun ag=>?_
      refine OP.m 0 rfl (.pointer (some ⟨d,0,none⟩)) ag ?_;simp only [OP.s];refine OP.m 1 rfl (.pointer (some ⟨w6.heap.size,1,none⟩)) ag ?_;simp only [OP.s];refine OP.t 2 rfl (.string (aU tt)) (fun X hX=>by obtain ⟨q0,q1,q2,q3,q4,q5,q6,q7,-⟩:=hX;go_simp) ag ?_;simp only [OP.s];refine OP.m 3 rfl (.pointer (some ⟨d,0,none⟩)) ag ?_;simp only [OP.s];refine OP.m 4 rfl (.pointer (some ⟨d,0,none⟩)) ag ?_;simp only [OP.s];refine OP.m 5 rfl (.pointer (some ⟨d,0,none⟩)) ag ?_;simp only [OP.s];refine OP.t 6 rfl (.slice (some ⟨g,off,none⟩) ln cap) (fun X hX=>by obtain ⟨q0,q1,q2,q3,q4,q5,q6,q7,-⟩:=hX;go_simp) ag ?_;simp only [OP.s];refine OP.m 7 rfl (.int .i64 i) ag ?_;simp only [OP.s];refine OP.t 8 rfl (.pointer (some ⟨g,off+i*4,none⟩)) (fun X hX=>Hu 79 80 g off ln i cap X rfl rfl rfl (by omega)) ag ?_;simp only [OP.s];refine OP.m 9 rfl (.pointer (some ⟨g,off+i*4+2,none⟩)) ag ?_;simp only [OP.s];refine OP.t 10 rfl (.int .i64 fr) (fun X hX=>by obtain ⟨q0,q1,q2,q3,q4,q5,q6,q7,-⟩:=hX;go_simp) ag ?_;simp only [OP.s];refine OP.t 12 rfl (.agg #[.string kb,.string tb,.int .i64 fb,.int .i64 eb,.slice ab nb cb]) (fun X hX=>by obtain ⟨q0,q1,q2,q3,q4,q5,q6,q7,-⟩:=hX;go_simp) ag ?_;simp only [OP.s]
      refine OP.r 11 rfl fun K hK=>?_
      go_simp
      refine hK.out _ _ ag fun ag=>?_
      try simp only [OP.s]
      clear hK K
      refine OP.r 13 rfl fun K hK=>?_
      go_simp
      have UH:(fun X=>X.cell? ⟨d,0,none⟩=some (.slice (some ⟨g,off,none⟩) ln cap)∧X.cell? ⟨g,off+i*4+2,none⟩=some (.int .i64 fr)∧X.cell? ⟨qb,0,none⟩=some (.string kb)∧X.cell? ⟨qb,1,none⟩=some (.string tb)∧X.cell? ⟨qb,2,none⟩=some (.int .i64 fb)∧X.cell? ⟨qb,3,none⟩=some (.int .i64 eb)∧X.cell? ⟨qb,4,none⟩=some (.slice ab nb cb)∧X.cell? ⟨w6.heap.size,1,none⟩=some (.string (aU tt))∧Mv WA.heap.size q WA X) ((WA.alloc (.cells #[.string k,.string t,.int .i64 f,.int .i64 e,.slice sl sn sc,.string kb,.string tb,.int .i64 fb,.int .i64 eb,.slice ab nb cb] 49)).drew):=by
       have h:=(Mv.of_below (d:=q) Aw)
       exact ⟨hc0 _ h,hc1 _ h,hc2 _ h,hc3 _ h,hc4 _ h,Y2 _ h,hc6 _ h,SA _ h,h⟩
      refine hK.out _ _ UH fun ag=>?_
      try simp only [OP.s]
      clear hK K
      refine OP.r 14 rfl fun K hK=>?_
      go_simp
      go_at_call 66
      refine (cP _ Aw ag).mono ?_;rintro e3 wP ⟨rfl,hSP,FN,u0,u1,u2,u3,u4,v0,v1,v2,v3,v4⟩;dsimp only;refine hK.out _ _ (hSP) (fun sI=>?_)
      try simp only [OP.s]
      clear hK K
      refine OP.r 15 rfl fun K hK=>?_
      go_simp
      have ab8:(fun X=>X.cell? ⟨d,0,none⟩=some (.slice (some ⟨g,off,none⟩) ln cap)∧X.cell? ⟨g,off+i*4+2,none⟩=some (.int .i64 fr)∧X.cell? ⟨qb,0,none⟩=some (.string kb)∧X.cell? ⟨qb,1,none⟩=some (.string tb)∧X.cell? ⟨qb,2,none⟩=some (.int .i64 fb)∧X.cell? ⟨qb,3,none⟩=some (.int .i64 eb)∧X.cell? ⟨qb,4,none⟩=some (.slice ab nb cb)∧X.cell? ⟨w6.heap.size,1,none⟩=some (.string (aU tt))∧Mv WA.heap.size q WA X) (((((wP.setCell ⟨q,0,none⟩ (.string ⟨#[98,105,110,97,114,121]⟩)).setCell ⟨q,1,none⟩ (.string (aU tt))).setCell ⟨q,2,none⟩ (.int .i64 fr)).setCell ⟨q,3,none⟩ (.int .i64 (jY L ob.at))).setCell ⟨q,4,none⟩ (.slice (some ⟨WA.heap.size,0,none⟩) 2 2)):=by
       have h:Mv WA.heap.size q WA (((((wP.setCell ⟨q,0,none⟩ (.string ⟨#[98,105,110,97,114,121]⟩)).setCell ⟨q,1,none⟩ (.string (aU tt))).setCell ⟨q,2,none⟩ (.int .i64 fr)).setCell ⟨q,3,none⟩ (.int .i64 (jY L ob.at))).setCell ⟨q,4,none⟩ (.slice (some ⟨WA.heap.size,0,none⟩) 2 2)):=((((hSP.2.2.2.2.2.2.2.2.setCell 0 _).setCell 1 _).setCell 2 _).setCell 3 _).setCell 4 _
       exact ⟨hc0 _ h,hc1 _ h,hc2 _ h,hc3 _ h,hc4 _ h,Y2 _ h,hc6 _ h,SA _ h,h⟩
      refine hK.out _ _ (ab8) (fun Y5=>?_)
      try simp only [OP.s]
      clear hK K;clear ag sI Y5 UH ab8;refine bL (by kernel_rfl) ?_ _
      obtain ⟨x,j,VT⟩:∃ x j,ob=.ok x j:=by
       cases ob with
       | ok x j=>exact ⟨x,j,rfl⟩
       | bad j=>cases pG
      obtain ⟨a,ja,Y6⟩:∃ a j,o=.ok a j:=by
       cases o with
       | ok x j=>exact ⟨x,j,rfl⟩
       | bad j=>cases fw
      have VU:ob.at=j:=by rw [VT];rfl
      have hMP:Mv WA.heap.size q WA wP:=hSP.2.2.2.2.2.2.2.2;obtain ⟨WF,DV⟩:∃ W,(((((wP.setCell ⟨q,0,none⟩ (.string ⟨#[98,105,110,97,114,121]⟩)).setCell ⟨q,1,none⟩ (.string (aU tt))).setCell ⟨q,2,none⟩ (.int .i64 fr)).setCell ⟨q,3,none⟩ (.int .i64 (jY L ob.at))).setCell ⟨q,4,none⟩ (.slice (some ⟨WA.heap.size,0,none⟩) 2 2))=W:=⟨_,rfl⟩;rw [DV];obtain ⟨X,hX⟩:∃ X,(WA.alloc (.cells #[.string k,.string t,.int .i64 f,.int .i64 e,.slice sl sn sc,.string kb,.string tb,.int .i64 fb,.int .i64 eb,.slice ab nb cb] 49)).drew=X:=⟨_,rfl⟩;have Aw:=Pp.out;have Xc:=FN.out;rw [hX] at Aw Xc
      have hXZ:X.heap[WA.heap.size]?=some (.cells #[.string k,.string t,.int .i64 f,.int .i64 e,.slice sl sn sc,.string kb,.string tb,.int .i64 fb,.int .i64 eb,.slice ab nb cb] 49 (0,0)):=by rw [← hX];exact aG WA _
      have hXs:=(af.1 hXZ).1;have hsX:=Aw.size;have hsP:=Xc.2.size
      have afD:q<WA.heap.size:=by omega
      have VV:∀ g',g'≠q→WF.heap[g']?=wP.heap[g']?:=by
       intro g' hg';rw [← DV]
       repeat rw [ak _ _ _ _ (by show g'≠q;omega)]
      have hFA:∀ g',g'<WA.heap.size→g'≠q→g'≠d→WF.heap[g']?=WA.heap[g']?:=fun g' h1 h2 h3=>(VV g' h2).trans ((Xc.2.block g' (by omega) h3).trans (Aw.block g' h1))
      have TX:wP.heap[q]?=_:=((Xc.2.block q (by omega) (fun h=>qz h.symm)).trans (Aw.block q afD)).trans HQA.out;have Iq:=dS (a':=.string ⟨#[98,105,110,97,114,121]⟩) (b':=.string (aU tt)) (c':=.int .i64 fr) (d':=.int .i64 (jY L ob.at)) (e':=.slice (some ⟨WA.heap.size,0,none⟩) 2 2) TX;rw [DV] at Iq;have hFd:Rd d lv ob.at false WF:=(VV d qz).trans Xc.1;have hFZ:WF.heap[WA.heap.size]?=_:=(VV _ (by omega)).trans ((Xc.2.block _ (by omega) (by omega)).trans hXZ)
      have hsF:WF.heap.size=wP.heap.size:=by rw [← DV];simp
      have hFM:Mv W1.heap.size d W1 WF:=(HMA.out.trans ((Mv.of_below Aw).mono HMA.out.size)).trans ((Xc.2.mono (by have:=HMA.out.size;omega)).trans (by rw [← DV];exact vX P4.out.2));have hw1:=dP.out.size;have hw2:=fG.out.mv.size;have hq0:=P4.out
      have hPV:qh WF (fun g=>w.heap.size<g∧g≠q) (.ok (.mk dI tt fr (jY L j) [a,x]) j) (.agg #[.string ⟨#[98,105,110,97,114,121]⟩,.string (aU tt),.int .i64 fr,.int .i64 (jY L ob.at),.slice (some ⟨WA.heap.size,0,none⟩) 2 2]):=by
       refine kN hFZ ⟨by omega,by omega⟩ (fun p j' fQ=>?_) (by omega) (ae _)
       injection fQ with hp1 hp2
       subst hp1;refine ⟨dI,tt,[a,x],by rw [VU],rfl,rfl,rfl,?_⟩;obtain ⟨k',t',f',e',a',n',c',h1,h2,h3⟩:=fG.out.part;have h4:=congrArg (fun v:Value=>match v with|.agg xs=>xs.toList|_=>[]) h1
       simp at h4
       obtain ⟨rfl,rfl,rfl,rfl,rfl,rfl,rfl⟩:=h4;obtain ⟨u1,u2⟩:=h3 a ja Y6;obtain ⟨v1,v2⟩:=Hw.out x j VT;have w1:=u2.later (W':=WF) (R':=fun g=>w.heap.size<g∧g≠q) (fun g' hg' hl=>(hFA g' (by omega) hg'.2 (by omega)).trans ((afA.out.block g' (by omega) (by omega)).trans (qP.out.block g' hl))) (fun g' hg'=>hg');have w2:=v2.later (W':=WF) (R':=fun g=>w.heap.size<g∧g≠q) (fun g' hg' hl=>(hFA g' (by omega) (by omega) (by omega)).trans (L5.block g' hl)) (fun g' hg'=>⟨by omega,by omega⟩)
       show aO WF _ _ (([.string k,.string t,.int .i64 f,.int .i64 e,.slice sl sn sc]:List Value)++([.string kb,.string tb,.int .i64 fb,.int .i64 eb,.slice ab nb cb]++[]))
       rw [jF u1,jF v1]
       exact ⟨_,_,rfl,w1,_,_,rfl,w2,rfl⟩
      have oC:Hid (Cb d L lv n i b than (bQ L i) O w W1 q (.ok (.mk dI tt fr (jY L j) [a,x]) j) ⟨#[98,105,110,97,114,121]⟩ (aU tt) fr (jY L ob.at) (some ⟨WA.heap.size,0,none⟩) 2 2 m' WF):=hid ⟨by
        rw [qW.out,VT,Y6,hfr2,htx]
        rfl,
       by rw [← VU];exact hFd,hFM,Iq,hPV,by rw [← VU];exact VR,fun _=>by show i<j;omega,fun _=>by show m'<n∧8*(L.length - j)+3≤m';omega⟩
      have sO:Hid (L.length+1 - atR d WF<L.length+1 - atR d wr):=hid (by rw [hFd.at,hat];omega);clear hX hXZ VV hFA TX Iq hFd hFZ hsF hFM hPV DV fw hat hfu hgt hle hoa hln hst hstr htx Nj hfr2 hfr VT Y6 VU u0 u1 u2 u3 u4 v0 v1 v2 v3 v4 hSP hMP Aw Xc hc0 hc1 hc2 hc3 hc4 Y2 hc6 SA cP hS0
      go_wp2_with fail
      go_roundw
      case rel=>exact ⟨_,_,_,_,_,_,_,_,m',oC⟩
      case measure=>exact sO.out
     ·rw [pG] at c2
      have oC:Hid (Cb d L lv n i b than (bQ L i) O w W1 q (.bad ob.at) k t f e sl sn sc m' WA):=hid ⟨by
        rw [qW.out]
        cases ob with
        | ok a j=>cases pG
        | bad j=>rfl,
       by rw [pG] at L6;exact L6,hMA,hqA,⟨k,t,f,e,sl,sn,sc,rfl,hsn,fun p j h=>by cases h⟩,VR,(fun h=>by cases h),(fun h=>by cases h)⟩
      have sO:Hid (L.length+1 - atR d WA<L.length+1 - atR d wr):=hid (by rw [Y4,hat];omega);clear L6 hMA hqA Ti hkA Y4 afy VR fw hat hfu hgt hle hoa hln hst hstr htx Nj
      go_wp2_with fail
      go_roundw
      case rel=>exact ⟨_,k,t,f,e,sl,sn,sc,m',oC⟩
      case measure=>exact sO.out
    ·have hO:O=o:=by
      rw [fG.out.out]
      cases o with
      | bad j=>cases fw
      | ok a j =>
       obtain ⟨m',rfl⟩:∃ m',m=m'+1:=⟨m - 1,by omega⟩;have hj:j=oa:=hoa
       show exprs L (m'+1) than _ a j=_
       rw [uH,ai (fun h=>hth (by rw [← hst,← hj];exact h.2))]
     have HO:=hid hO;clear hO fw hat hfu hgt hle hoa hln hst hstr htx x0 x1 x2 x3 x4 x5 x6 fz
     go_wp2_with fail
     have hp:=dS (a':=.string k) (b':=.string t) (c':=.int .i64 f) (d':=.int .i64 e) (e':=.slice sl sn sc) (show w6.heap[w.heap.size]?=_ from VG.out);refine aB (v:=.agg #[.string k,.string t,.int .i64 f,.int .i64 e,.slice sl sn sc]) (aQ rfl _ _ w.heap.size 49 #[.string k,.string t,.int .i64 f,.int .i64 e,.slice sl sn sc] (0,0) _ (by rfl) hp Tryz.underlying49 rfl (by kernel_rfl)) rfl ?_;rw [← HQ.out,HO.out]
     exact dO hd (dP.out.trans ((fG.out.mv.trans ((Mv.of_below qP.out).mono fG.out.mv.size)).mono dP.out.size)) (fG.out.rd.below qP.out) rfl rfl (fG.out.part.later (fun g _ hl=>qP.out.block g hl) (fun g hg=>hg.1)) ⟨ae _,ae _⟩
   obtain ⟨la,cap,hlv,_⟩:=Bh.out;rw [hlv,hln] at c0;rw [hoa] at c1
   have hO:O=o:=by
    rw [fG.out.out]
    cases o with
    | bad j=>cases fw
    | ok a j =>
     obtain ⟨m',rfl⟩:∃ m',m=m'+1:=⟨m - 1,by omega⟩;have hj:j=oa:=hoa
     show exprs L (m'+1) than _ a j=_
     rw [uH,ai (fun h=>hlt (by omega))]
   have HO:=hid hO;clear hO fw hat hfu hgt hle hoa hln
  rotate_left
  focus
   have c2:=fG.out.rd.c2;rw [fw] at c2
   have hO:O=o:=by
    rw [fG.out.out]
    cases o with
    | ok a j=>cases fw
    | bad j=>rfl
   have HO:=hid hO;clear hO fw hat
  rotate_left
  all_goals
   go_upto_region 3 with fail
   go_quiet (fail)
   go_wp2_with fail
   have hp:=dS (a':=.string k) (b':=.string t) (c':=.int .i64 f) (d':=.int .i64 e) (e':=.slice sl sn sc) (show (wr.drewN nq).heap[w.heap.size]?=_ from pQ.out);refine aB (v:=.agg #[.string k,.string t,.int .i64 f,.int .i64 e,.slice sl sn sc]) (aQ rfl _ _ w.heap.size 49 #[.string k,.string t,.int .i64 f,.int .i64 e,.slice sl sn sc] (0,0) _ (by rfl) hp Tryz.underlying49 rfl (by kernel_rfl)) rfl ?_;rw [← HQ.out,HO.out]
   exact dO hd (dP.out.trans ((fG.out.mv.trans (((Mv.refl wr.heap.size d wr).drewN nq).mono fG.out.mv.size)).mono dP.out.size)) (fG.out.rd.drewN nq) rfl rfl (fG.out.part.later (fun g _ _=>rfl) (fun g hg=>hg.1)) ⟨ae _,ae _⟩
end T
end Go.Proofs.YtojoahlpgmnbnaaGreatDoor
