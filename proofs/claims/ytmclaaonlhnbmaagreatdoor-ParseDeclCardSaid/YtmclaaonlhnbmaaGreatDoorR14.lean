/- What the claim needs of the texts TExpr. -/
import Derived.Test.YtmclaaonlhnbmaaGreatDoorROp
import Derived.Test.YtmclaaonlhnbmaaGreatDoorR13
import Derived.Deep.RegionHeld3
namespace Go.Proofs.YtmclaaonlhnbmaaGreatDoor.T
open Go.RowKit
open Go.Lib hiding intOf
open U S L
def ExprAt (d:Nat) (L:List TokP) (lv:Value) (n:Nat):Prop:=∀ (than:Int) (i:Nat) (b:Bool) (w:World),Rd d lv i b w→Tk d L lv w→i≤L.length→(b=false→8*(L.length - i)+3≤n) →
 Calls Tryz.prog 142 #[.pointer (some ⟨d,0,none⟩),.int .i64 than] w (Reads d lv (start b i (expr L n than i)) w)
def PrefixAt (d:Nat) (L:List TokP) (lv:Value) (n:Nat):Prop:=∀ (i:Nat) (b:Bool) (w:World),Rd d lv i b w→Tk d L lv w→i≤L.length→(b=false→8*(L.length - i)+2≤n) →
 Calls Tryz.prog 156 #[.pointer (some ⟨d,0,none⟩)] w (Reads d lv (start b i (prefixT L n i)) w)
def OperandAt (d:Nat) (L:List TokP) (lv:Value) (n:Nat):Prop:=∀ (i:Nat) (b:Bool) (w:World),Rd d lv i b w→Tk d L lv w→i≤L.length→(b=false→8*(L.length - i)+1≤n) →
 Calls Tryz.prog 163 #[.pointer (some ⟨d,0,none⟩)] w (Reads d lv (start b i (operand L n i)) w)
def Out.pt (o:Out Pt):Pt:=match o with
 | .ok a _=>a
 | .bad _=>.mk [] [] 0 0 []
theorem PartV.later {W W':World} {R R':Nat→Prop} {o:Out Pt} {v:Value} (h:PartV W R o v) (hs:Still R W W') (hR:∀ g,R g→R' g):PartV W' R' o v:=by
 obtain ⟨k,t,f,e,a,n,c,h1,h2,h3⟩:=h
 exact ⟨k,t,f,e,a,n,c,h1,h2,fun p j hp=>⟨(h3 p j hp).1,(h3 p j hp).2.later hs hR⟩⟩
theorem wanted_step {c:Prop} [Decidable c] {A B:Prop} (hc:c) (hA:A):if c then A else B:=by rw [if_pos hc];exact hA
theorem idx_tok {o:Oper} {a:Act} (x y g off n i c:Nat) (W:World) (ho:o.op=.indexAddr 41 (.tmp x) (.tmp y)) (h1:a.eval (.tmp x)=.slice (some ⟨g,off,none⟩) n c) (h2:a.eval (.tmp y)=.int .i64 i) (hin:i<n):(execOp a.eval o).run Tryz.prog W=.ok (.value (.pointer (some ⟨g,off+i*4,none⟩))) W:=by
 have hm:(0:Int)≤(i:Int):=by omega
 have hm2:(i:Int)<(n:Int):=by omega
 have hr:(Instr.indexAt 41 (.slice (some ⟨g,off,none⟩) n c) (.int .i64 i)).run Tryz.prog W=.ok (.pointer (some ⟨g,off+i*4,none⟩)) W:=by
  simp [go_sem]
  intro h
  omega
 unfold execOp
 rw [ho];simp only [h1,h2,Sem.run_bind,hr,Result.andThen_ok,Sem.run_pure]
structure ExprInv (d:Nat) (L:List TokP) (lv:Value) (n i:Nat) (b:Bool) (than fr:Int) (O:Out Pt) (w W1:World) (q:Nat) (o:Out Pt) (k t:ByteArray) (f e:Int) (sl:Option Addr) (sn sc:Nat) (m:Nat) (W:World):Prop where
 out:O=o.next fun a j=>exprs L m than fr a j
 rd:Rd d lv o.at o.isBad W
 mv:Mv W1.heap.size d W1 W
 box:W.heap[q]?=some (.cells #[.string k,.string t,.int .i64 f,.int .i64 e,.slice sl sn sc] 25 (0,0))
 part:PartV W (fun g=>w.heap.size<g∧g≠q) o (.agg #[.string k,.string t,.int .i64 f,.int .i64 e,.slice sl sn sc])
 le:o.at≤L.length
 gt:o.isBad=false→i<o.at
 fuel:o.isBad=false→m<n∧8*(L.length - o.at)+3≤m
set_option maxHeartbeats 16000000 in
set_option maxRecDepth 20000 in
theorem expr_step (d:Nat) (L:List TokP) (lv:Value) (hL:L.length≤1000000) (n:Nat) (ihP:∀ m,n=m+1∨m=0→PrefixAt d L lv m) (ih:∀ m,m<n→ExprAt d L lv m):ExprAt d L lv n:=by
 intro than i b w hR hT hi hn;have hd:=hR.lt;obtain ⟨W1,hW1⟩:∃ W1,w.alloc zeroP=W1:=⟨_,rfl⟩
 have hb1:Below w.heap.size w W1:=by rw [← hW1];exact (Below.refl _ w).alloc (Nat.le_refl _) _
 have HM1:=hid (Mv.of_below (d:=d) hb1)
 have hq1:W1.heap[w.heap.size]?=some (.cells #[.string ⟨#[]⟩,.string ⟨#[]⟩,.int .i64 0,.int .i64 0,.slice none 0 0] 25 (0,0)):=by rw [← hW1];exact heap_alloc_new w _
 have hR1:Rd d lv i b W1:=hR.below hb1;have hT1:=hT.mv (Mv.of_below hb1) (Nat.le_refl _);have k1:=hR1.c1;obtain ⟨O,hO⟩:∃ O,start b i (expr L n than i)=O:=⟨_,rfl⟩;rw [hO];obtain ⟨Q,hQ⟩:∃ Q,Reads d lv O w=Q:=⟨_,rfl⟩;have HQ:=hid hQ;rw [hQ]
 obtain ⟨m0,o,ho,hOo,hfu⟩:∃ m0 o,start b i (prefixT L m0 i)=o∧O=o.next (fun a j=>exprs L m0 than (fromT L i) a j)∧(o.isBad=false→m0<n∧8*(L.length - o.at)+3≤m0)∧(n=m0+1∨m0=0)∧(b=false→8*(L.length - i)+2≤m0):=by
  cases b
  ·have h1:=hn rfl
   obtain ⟨m,rfl⟩:∃ m,n=m+1:=⟨n - 1,by omega⟩;refine ⟨m,_,rfl,by rw [← hO,start_false,expr_succ,start_false],?_,.inl rfl,fun _=>by omega⟩;intro hb;have:=((all_fwd m).prefixT i hi).gt hb;have:=((all_fwd m).prefixT i hi).le;rw [start_false]
   omega
  ·exact ⟨0,.bad i,rfl,hO.symm,(fun h=>by cases h),.inr rfl,(fun h=>by cases h)⟩
 have hfw:Fol L i b o:=by rw [← ho];exact .begun hi ((all_fwd m0).prefixT i hi).toFw
 have hgt:o.isBad=false→i<o.at:=by
  rw [← ho]
  cases b
  ·exact ((all_fwd m0).prefixT i hi).gt
  ·intro h;cases h
 have HIP:=hid (ihP m0 hfu.2.1 i b W1 hR1 hT1 hi hfu.2.2);have HI:=hid ih;have HOO:=hid hOo;have HF:=hid hfw;have HGT:=hid hgt;have HFU:=hid hfu.1;have HW1:=hid hW1;have HQ1:=hid hq1;have HR1:=hid hR1;have HT1:=hid hT1;rw [ho] at HIP;clear hO hQ hfu hOo hfw hgt hq1 hR1 hT1 hb1 hR hT ih ihP hn ho
 go_enter Tryz.func142,Tryz.ntmps142
 go_wp2_with fail
 clear hW1;refine HIP.out.mono ?_;rintro x w4 ⟨v,rfl,⟨k,t,f,e,sl,sn,sc,rfl,hnn,hv⟩,hw4⟩;obtain ⟨q,hq⟩:∃ q,w4.heap.size=q:=⟨_,rfl⟩;have HV:=hid hv;have HW4:=hid hw4;clear hv hw4
 go_upto_region 3 with fail
 obtain ⟨W5,hW5⟩:∃ W5,w4.alloc (.cells #[.string k,.string t,.int .i64 f,.int .i64 e,.slice sl sn sc] 25)=W5:=⟨_,rfl⟩
 have hb5:Below w4.heap.size w4 W5:=by rw [← hW5];exact (Below.refl _ w4).alloc (Nat.le_refl _) _
 have hq5:W5.heap[q]?=some (.cells #[.string k,.string t,.int .i64 f,.int .i64 e,.slice sl sn sc] 25 (0,0)):=by rw [← hW5,← hq];exact heap_alloc_new w4 _
 rw [hW5]
 have hqw:w.heap.size<q∧W1.heap.size≤q:=by
  have h1:=(Array.getElem?_eq_some_iff.1 HQ1.out).1;have h2:=HW4.out.2.size
  omega
 have hin:ExprInv d L lv n i b than (fromT L i) O w W1 q o k t f e sl sn sc m0 W5 :=
  ⟨HOO.out,HW4.out.1.below hb5,HW4.out.2.trans (Mv.of_below (hb5.mono HW4.out.2.size)),hq5,
   ⟨k,t,f,e,sl,sn,sc,rfl,hnn,fun p j hp=>⟨(HV.out p j hp).1,(KidsIn.live _ _ (HV.out p j hp).2).later (Mv.still (B:=w4.heap.size) (d:=d) (Mv.of_below hb5) (Nat.le_refl _) (fun g hg=>by have:=(Array.getElem?_eq_some_iff.1 HQ1.out).1;omega)) (fun g hg=>by have:=(Array.getElem?_eq_some_iff.1 HQ1.out).1;omega)⟩⟩,HF.out.le,HGT.out,HFU.out⟩
 have HIN:=hid hin;have HQW:=hid hqw;clear hin hW5 hb5 hq5 hqw hnn HV HW4 HFU HGT HF HOO k1 HIP
 go_loopw [] (fun wr=>∃ (o:Out Pt) (k t:ByteArray) (f e:Int) (sl:Option Addr) (sn sc m:Nat),Hid (ExprInv d L lv n i b than (fromT L i) O w W1 q o k t f e sl sn sc m wr)) (fun wr=>L.length+1 - atR d wr)
 case atStart=>exact ⟨o,k,t,f,e,sl,sn,sc,m0,HIN⟩
 case round =>
  clear HIN;obtain ⟨o,k,t,f,e,sl,sn,sc,m,HIN⟩:=hrel;have hat:=HIN.out.rd.at;obtain ⟨⟨p0,p1,p2,p3,p4⟩,-⟩:=five_cells HIN.out.box;have hq7:wr.heap[w.heap.size]?=_:=(HIN.out.mv.block w.heap.size (Array.getElem?_eq_some_iff.1 HQ1.out).1 (by omega)).trans HQ1.out;obtain ⟨⟨r0,r1,r2,r3,r4⟩,gz⟩:=five_cells hq7;have g0:=gz 0;have g1:=gz 1;have g2:=gz 2;have g3:=gz 3;have g4:=gz 4;have HQ7:=hid hq7;clear gz hq7
  cases hob:o.isBad
  ·have c2:=HIN.out.rd.c2
   rw [hob] at c2;have c1:=HIN.out.rd.c1;have c0:=HIN.out.rd.c0;have hfu:=HIN.out.fuel hob;have hgt:=HIN.out.gt hob;have hle:=HIN.out.le;have HTr:=hid (HT1.out.mv HIN.out.mv (Nat.le_refl _));obtain ⟨oa,hoa⟩:∃ u,o.at=u:=⟨_,rfl⟩;obtain ⟨ln,hln⟩:∃ u,L.length=u:=⟨_,rfl⟩
   by_cases hlt:oa<ln
   ·obtain ⟨g,off,cap,hlv,hgd,t0,t1,t2,t3⟩:=tk_word (i:=oa) HTr.out (by omega)
    rw [hlv,hln] at c0
    have hstr:strongT L oa=strong L[oa]:=by unfold strongT;rw [List.getElem?_eq_getElem (by omega)]
    have htx:textT L oa=L[oa].t:=by unfold textT;rw [List.getElem?_eq_getElem (by omega)]
    have cS:=strength_any L[oa];rw [← hstr] at cS;rw [hoa] at c1;obtain ⟨st,hst⟩:∃ u,strongT L oa=u:=⟨_,rfl⟩;rw [hst] at cS;have hstr2:=hstr;generalize L[oa]=tk at t0 t1 t2 t3 cS htx hstr2;obtain ⟨tw,tt,tf,te⟩:=tk;dsimp only at t0 t1 t2 t3 cS htx;rw [show (⟨tt.toArray⟩:ByteArray)=bstr tt from rfl] at t1;have hdr:d<wr.heap.size:=HIN.out.rd.lt;have hgr:g<wr.heap.size:=World.block_lt_of_cell? wr _ t0;obtain ⟨S,hS⟩:∃ S:World→Prop,S=(fun X=>X.cell? ⟨d,0,none⟩=some (.slice (some ⟨g,off,none⟩) ln cap)∧X.cell? ⟨d,1,none⟩=some (.int .i64 oa)∧X.cell? ⟨d,2,none⟩=some (.bool false)∧X.cell? ⟨g,off+oa*4,none⟩=some (.int .i64 tw)∧X.cell? ⟨g,off+oa*4+1,none⟩=some (.string (bstr tt))∧X.cell? ⟨g,off+oa*4+2,none⟩=some (.int .i64 tf)∧X.cell? ⟨g,off+oa*4+3,none⟩=some (.int .i64 te)∧Below wr.heap.size wr X):=⟨_,rfl⟩
    have cS2:∀ X,S X→Calls Tryz.prog 157 #[.agg #[.int .i64 tw,.string (bstr tt),.int .i64 tf,.int .i64 te]] X fun e w'=>e=.returned (.int .i64 st)∧S w':=by
     intro X hX;rw [hS] at hX ⊢;obtain ⟨x0,x1,x2,x3,x4,x5,x6,x7⟩:=hX;have hsz:=x7.size;refine (cS X).mono ?_;rintro e w' ⟨rfl,h2⟩
     exact ⟨rfl,(h2.cell (p:=⟨d,0,none⟩) (by simp only;omega)).trans x0,(h2.cell (p:=⟨d,1,none⟩) (by simp only;omega)).trans x1,(h2.cell (p:=⟨d,2,none⟩) (by simp only;omega)).trans x2,(h2.cell (p:=⟨g,off+oa*4,none⟩) (by simp only;omega)).trans x3,(h2.cell (p:=⟨g,off+oa*4+1,none⟩) (by simp only;omega)).trans x4,(h2.cell (p:=⟨g,off+oa*4+2,none⟩) (by simp only;omega)).trans x5,(h2.cell (p:=⟨g,off+oa*4+3,none⟩) (by simp only;omega)).trans x6,x7.trans (h2.mono hsz)⟩
    have hS0:S wr.drew:=by rw [hS];exact ⟨c0,c1,c2,t0,t1,t2,t3,(Below.refl _ _).drew⟩
    rw [hS] at cS2 hS0;clear hS cS
    go_upto_region 3 with fail
    go_region_held3 (fun X=>X.cell? ⟨d,0,none⟩=some (.slice (some ⟨g,off,none⟩) ln cap)∧X.cell? ⟨d,1,none⟩=some (.int .i64 oa)∧X.cell? ⟨d,2,none⟩=some (.bool false)∧X.cell? ⟨g,off+oa*4,none⟩=some (.int .i64 tw)∧X.cell? ⟨g,off+oa*4+1,none⟩=some (.string (bstr tt))∧X.cell? ⟨g,off+oa*4+2,none⟩=some (.int .i64 tf)∧X.cell? ⟨g,off+oa*4+3,none⟩=some (.int .i64 te)∧Below wr.heap.size wr X) (with_reducible (repeat (first|assumption))) (first|(go_at_call 157;(with_reducible refine (cS2 _ ?_).mono ?_);assumption;rintro e3 w6 ⟨rfl,hS6⟩))
    have hB6:=hS6.2.2.2.2.2.2.2;obtain ⟨x0,x1,x2,x3,x4,x5,x6,-⟩:=hS6;have hq6:=(hB6.block q (Array.getElem?_eq_some_iff.1 HIN.out.box).1).trans HIN.out.box;have hz6:=(hB6.block w.heap.size (Array.getElem?_eq_some_iff.1 HQ7.out).1).trans HQ7.out;have HB6:=hid hB6;have HQ6:=hid hz6;have HK6:=hid hq6;obtain ⟨⟨p0,p1,p2,p3,p4⟩,fz⟩:=five_cells hq6;obtain ⟨⟨r0,r1,r2,r3,r4⟩,gz⟩:=five_cells hz6;have g0:=gz 0;have g1:=gz 1;have g2:=gz 2;have g3:=gz 3;have g4:=gz 4;clear hB6 hq6 hz6 c0 c1 c2 t0 t1 t2 t3 cS2 hS0 gz
    by_cases hth:than<st
    ·clear r0 r1 r2 r3 r4 g0 g1 g2 g3 g4
     have f1:=(HIN.out.rd.below HB6.out).f1
     go_upto_region 4 with fail
     have hd6:d<w6.heap.size:=Nat.lt_of_lt_of_le hdr HB6.out.size;have hg6:g<w6.heap.size:=Nat.lt_of_lt_of_le hgr HB6.out.size
     have hc0:∀ X,Below w6.heap.size w6 X→X.cell? ⟨d,0,none⟩=some (.slice (some ⟨g,off,none⟩) ln cap):=fun X h=>(h.cell (p:=⟨d,0,none⟩) (by simp only;omega)).trans x0
     have hc1:∀ X,Below w6.heap.size w6 X→X.cell? ⟨d,1,none⟩=some (.int .i64 oa):=fun X h=>(h.cell (p:=⟨d,1,none⟩) (by simp only;omega)).trans x1
     have hc2:∀ X,Below w6.heap.size w6 X→X.cell? ⟨g,off+oa*4,none⟩=some (.int .i64 tw):=fun X h=>(h.cell (p:=⟨g,off+oa*4,none⟩) (by simp only;omega)).trans x3
     have hc3:∀ X,Below w6.heap.size w6 X→X.cell? ⟨g,off+oa*4+1,none⟩=some (.string (bstr tt)):=fun X h=>(h.cell (p:=⟨g,off+oa*4+1,none⟩) (by simp only;omega)).trans x4
     have hc4:∀ X,Below w6.heap.size w6 X→X.cell? ⟨g,off+oa*4+2,none⟩=some (.int .i64 tf):=fun X h=>(h.cell (p:=⟨g,off+oa*4+2,none⟩) (by simp only;omega)).trans x5
     have hc5:∀ X,Below w6.heap.size w6 X→X.cell? ⟨g,off+oa*4+3,none⟩=some (.int .i64 te):=fun X h=>(h.cell (p:=⟨g,off+oa*4+3,none⟩) (by simp only;omega)).trans x6
     have hS0:(fun X=>X.cell? ⟨d,0,none⟩=some (.slice (some ⟨g,off,none⟩) ln cap)∧X.cell? ⟨d,1,none⟩=some (.int .i64 oa)∧X.cell? ⟨g,off+oa*4,none⟩=some (.int .i64 tw)∧X.cell? ⟨g,off+oa*4+1,none⟩=some (.string (bstr tt))∧X.cell? ⟨g,off+oa*4+2,none⟩=some (.int .i64 tf)∧X.cell? ⟨g,off+oa*4+3,none⟩=some (.int .i64 te)∧Below w6.heap.size w6 X) w6.drew:=⟨x0,x1,x3,x4,x5,x6,(Below.refl _ _).drew⟩;dsimp only at hS0
     go_region_held3 (fun X=>X.cell? ⟨d,0,none⟩=some (.slice (some ⟨g,off,none⟩) ln cap)∧X.cell? ⟨d,1,none⟩=some (.int .i64 oa)∧X.cell? ⟨g,off+oa*4,none⟩=some (.int .i64 tw)∧X.cell? ⟨g,off+oa*4+1,none⟩=some (.string (bstr tt))∧X.cell? ⟨g,off+oa*4+2,none⟩=some (.int .i64 tf)∧X.cell? ⟨g,off+oa*4+3,none⟩=some (.int .i64 te)∧Below w6.heap.size w6 X) (with_reducible (repeat (first|assumption|refine And.intro ?_ ?_|exact Below.refl _ _|refine Below.drew ?_|refine Below.alloc ?_ (Nat.le_refl _) _|refine Below.setCell ?_ (Nat.le_refl _) _|refine hc0 _ ?_|refine hc1 _ ?_|refine hc2 _ ?_|refine hc3 _ ?_|refine hc4 _ ?_|refine hc5 _ ?_))) (first|fail)
     clear hc0 hc1 hc2 hc3 hc4 hc5 hS0;have e1:IntKind.i64.wrap ((oa:Int)+1)=(oa:Int)+1:=IntWalk.i64_in _ (by omega)
     go_upto_region 6 with fail
     obtain ⟨W7,hW7⟩:∃ W7,((w6.setCell ⟨d,1,none⟩ (.int .i64 ((oa:Int)+1))).alloc (.cells #[.int .i64 tw,.string (bstr tt),.int .i64 tf,.int .i64 te] 48)).drew=W7:=⟨_,rfl⟩;rw [hW7]
     have hR7:Rd d lv (oa+1) false W7:=by
      rw [← hW7];have h1:Rd d lv o.at o.isBad w6:=HIN.out.rd.below HB6.out;rw [hob] at h1
      exact (h1.set1 ((oa:Int)+1) (by simp)).below ((Below.refl _ _).alloc (Nat.le_refl _) _).drew
     have hM7:Mv w6.heap.size d w6 W7:=by
      rw [← hW7]
      have hsz:(w6.setCell ⟨d,1,none⟩ (.int .i64 ((oa:Int)+1))).heap.size=w6.heap.size:=by simp
      exact ((Mv.refl _ _ _).setCell 1 _).trans (Mv.of_below ((Below.refl _ _).alloc (Nat.le_of_eq hsz.symm) _).drew)
     have hk7:W7.heap[w6.heap.size]?=some (.cells #[.int .i64 tw,.string (bstr tt),.int .i64 tf,.int .i64 te] 48 (0,0)):=by
      rw [← hW7];have h1:=heap_alloc_new (w6.setCell ⟨d,1,none⟩ (.int .i64 ((oa:Int)+1))) (.cells #[.int .i64 tw,.string (bstr tt),.int .i64 tf,.int .i64 te] 48);rw [show (w6.setCell ⟨d,1,none⟩ (.int .i64 ((oa:Int)+1))).heap.size=w6.heap.size by simp] at h1
      exact h1
     have m0':W7.cell? ⟨w6.heap.size,0,none⟩=some (.int .i64 tw):=by simp [World.cell?,hk7]
     have m1':W7.cell? ⟨w6.heap.size,1,none⟩=some (.string (bstr tt)):=by simp [World.cell?,hk7]
     have m2':W7.cell? ⟨w6.heap.size,2,none⟩=some (.int .i64 tf):=by simp [World.cell?,hk7]
     have m3':W7.cell? ⟨w6.heap.size,3,none⟩=some (.int .i64 te):=by simp [World.cell?,hk7]
     obtain ⟨m',rfl⟩:∃ m',m=m'+1:=⟨m - 1,by omega⟩;have HIX:=HI.out m' (by omega) st (oa+1) false;rw [start_false] at HIX;obtain ⟨ob,hob'⟩:∃ u,expr L m' st (oa+1)=u:=⟨_,rfl⟩;rw [hob'] at HIX
     have hbf:Fwd L (oa+1) ob:=by rw [← hob'];exact (all_fwd m').expr (oa+1) (by omega) st
     have HOO:Hid (O=ob.next fun x j=>exprs L m' than (fromT L i) (.mk kBinary (textT L oa) (fromT L i) (toT L j) [o.pt,x]) j):=hid (by
      rw [HIN.out.out]
      cases o with
      | bad j=>cases hob
      | ok a j =>
       have hj:j=oa:=hoa
       show exprs L (m'+1) than _ a j=_
       rw [exprs_succ,hj,if_pos ⟨by omega,by rw [hst];exact hth⟩,hst,hob']
       rfl)
     have cX:=strength_any ⟨tw,tt,tf,te⟩ W7
     have hfin:strong ⟨tw,tt,tf,te⟩=st:=by rw [← hst,hstr2]
     rw [hfin] at cX;have hfz:b=b:=rfl;have hT7:=HTr.out.mv ((Mv.of_below HB6.out).trans (hM7.mono HB6.out.size)) (Nat.le_refl _);have HM7:=hid hM7;have HR7:=hid hR7;have HT7:=hid hT7;have HK7:=hid hk7;have HBF:=hid hbf;have HIXX:=hid HIX;clear hR7 hM7 hT7 hk7 hW7 hbf hfz hfin x0 x1 x2 x3 x4 x5 x6 p0 p1 p2 p3 p4 fz HIX
     go_wp2_with fail
     refine cX.mono ?_;rintro e3 w8 ⟨rfl,hb8⟩;have c9:=HIXX.out w8 (HR7.out.below hb8) (HT7.out.mv (Mv.of_below hb8) (Nat.le_refl _)) (by omega) (fun _=>by omega);have HB8:=hid hb8;clear cX hb8
     go_wp2_with fail
     refine c9.mono ?_;rintro x w9 ⟨v,rfl,⟨kb,tb,fb,eb,ab,nb,cb,rfl,hnb,hvb⟩,hw9⟩;have HVB:=hid hvb;have HW9:=hid hw9;clear c9 hvb hw9
     go_upto_region 7 with fail
     obtain ⟨qb,hqb⟩:∃ q,w9.heap.size=q:=⟨_,rfl⟩;obtain ⟨WA,hWA⟩:∃ W,w9.alloc (.cells #[.string kb,.string tb,.int .i64 fb,.int .i64 eb,.slice ab nb cb] 25)=W:=⟨_,rfl⟩
     have hbA:Below w9.heap.size w9 WA:=by rw [← hWA];exact (Below.refl _ w9).alloc (Nat.le_refl _) _
     have hkA:WA.heap[qb]?=some (.cells #[.string kb,.string tb,.int .i64 fb,.int .i64 eb,.slice ab nb cb] 25 (0,0)):=by rw [← hWA,← hqb];exact heap_alloc_new w9 _
     rw [hWA,hqb];have hRA:Rd d lv ob.at ob.isBad WA:=HW9.out.1.below hbA;have z78:=HM7.out.size;have z89:=HB8.out.size;have z9:=HW9.out.2.size;have zA:=hbA.size;have z6:=HB6.out.size;have hM6A:Mv w6.heap.size d w6 WA:=((HM7.out.trans ((Mv.of_below HB8.out).mono z78)).trans (HW9.out.2.mono (by omega))).trans ((Mv.of_below hbA).mono (by omega));have hMA:Mv W1.heap.size d W1 WA:=(HIN.out.mv.trans ((Mv.of_below HB6.out).mono HIN.out.mv.size)).trans (hM6A.mono (by have:=HIN.out.mv.size;omega));have hqA:WA.heap[q]?=_:=(hM6A.block q (Array.getElem?_eq_some_iff.1 HK6.out).1 (by have:=HQW.out;have:=HM1.out.size;omega)).trans HK6.out;have hatA:=hRA.at;have hgeA:=HBF.out.ge;have hleA:=HBF.out.le
     have hsn:sn≤1000000:=by
      obtain ⟨k',t',f',e',a',n',c',h1,h2,_⟩:=HIN.out.part;have h3:=congrArg (fun v:Value=>match v with|.agg xs=>xs.toList|_=>[]) h1
      simp at h3
      omega
     have c2:=hRA.c2
     cases hobb:ob.isBad
     ·rw [hobb] at c2 hRA
      have hil:i<L.length:=by omega
      have HTA:=hid (HT1.out.mv hMA (Nat.le_refl _));obtain ⟨g2,off2,cap2,hlv2,_,y0,y1,y2,y3⟩:=tk_word (i:=i) HTA.out hil;rw [hlv] at hlv2
      injection hlv2 with i1 i2 i3
      injection i1 with i1
      injection i1 with i1 i4 i5
      subst i1;subst i4;have c0:=hRA.c0;rw [hlv,hln] at c0
      have hfr:fromT L i=L[i].f:=by unfold fromT;rw [List.getElem?_eq_getElem hil]
      rw [← hfr] at y2;obtain ⟨fr,hfr2⟩:∃ fr,fromT L i=fr:=⟨_,rfl⟩;rw [hfr2] at y2;obtain ⟨⟨p0,p1,p2,p3,p4⟩,gz⟩:=five_cells hqA;obtain ⟨⟨b0,b1,b2,b3,b4⟩,-⟩:=five_cells hkA;have g0:=gz 0;have g1:=gz 1;have g2':=gz 2;have g3:=gz 3;have g4:=gz 4;have z67:=(Array.getElem?_eq_some_iff.1 HK7.out).1;have hmk:WA.heap[w6.heap.size]?=_:=(hbA.block _ (by omega)).trans ((HW9.out.2.block w6.heap.size (by omega) (by have:=HM1.out.size;have:=HIN.out.mv.size;omega)).trans ((HB8.out.block _ (Array.getElem?_eq_some_iff.1 HK7.out).1).trans HK7.out))
      have mk1:WA.cell? ⟨w6.heap.size,1,none⟩=some (.string (bstr tt)):=by simp [World.cell?,hmk]
      clear y0 y1 y3 gz;have hgA:g<WA.heap.size:=World.block_lt_of_cell? WA _ y2;have hbA2:qb<WA.heap.size:=World.block_lt_of_cell? WA _ b0;have hmA:w6.heap.size<WA.heap.size:=World.block_lt_of_cell? WA _ mk1;have hdA:d<WA.heap.size:=hRA.lt;have hqA2:q<w6.heap.size:=(Array.getElem?_eq_some_iff.1 HK6.out).1
      have hqd:d≠q:=by have:=HQW.out;omega
      have hgq:g≠q:=by
       obtain ⟨la,cap',h1,h2⟩:=HT1.out
       rcases h2 with h2|⟨g',off',h3,_,h5,_⟩
       ·rw [h2] at hil;exact absurd hil (Nat.not_lt_zero _)
       ·rw [hlv,h3] at h1
        injection h1 with h1
        injection h1 with h1
        injection h1 with h1
        have:=HQW.out
        omega
      have mvc:∀ {X:World} {p:Addr},Mv WA.heap.size q WA X→p.block<WA.heap.size→p.block≠q→X.cell? p=WA.cell? p:=by
       intro X p h h1 h2;have h3:=h.block p.block h1 h2
       unfold World.cell?
       rw [h3]
      have hc0:∀ X,Mv WA.heap.size q WA X→X.cell? ⟨d,0,none⟩=some (.slice (some ⟨g,off,none⟩) ln cap):=fun X h=>(mvc (p:=⟨d,0,none⟩) h (by simp only;omega) (by simp only;omega)).trans c0
      have hc1:∀ X,Mv WA.heap.size q WA X→X.cell? ⟨g,off+i*4+2,none⟩=some (.int .i64 fr):=fun X h=>(mvc (p:=⟨g,off+i*4+2,none⟩) h (by simp only;omega) (by simp only;omega)).trans y2
      have hc2:∀ X,Mv WA.heap.size q WA X→X.cell? ⟨qb,0,none⟩=some (.string kb):=fun X h=>(mvc (p:=⟨qb,0,none⟩) h (by simp only;omega) (by simp only;omega)).trans b0
      have hc3:∀ X,Mv WA.heap.size q WA X→X.cell? ⟨qb,1,none⟩=some (.string tb):=fun X h=>(mvc (p:=⟨qb,1,none⟩) h (by simp only;omega) (by simp only;omega)).trans b1
      have hc4:∀ X,Mv WA.heap.size q WA X→X.cell? ⟨qb,2,none⟩=some (.int .i64 fb):=fun X h=>(mvc (p:=⟨qb,2,none⟩) h (by simp only;omega) (by simp only;omega)).trans b2
      have hc5:∀ X,Mv WA.heap.size q WA X→X.cell? ⟨qb,3,none⟩=some (.int .i64 eb):=fun X h=>(mvc (p:=⟨qb,3,none⟩) h (by simp only;omega) (by simp only;omega)).trans b3
      have hc6:∀ X,Mv WA.heap.size q WA X→X.cell? ⟨qb,4,none⟩=some (.slice ab nb cb):=fun X h=>(mvc (p:=⟨qb,4,none⟩) h (by simp only;omega) (by simp only;omega)).trans b4
      have hc7:∀ X,Mv WA.heap.size q WA X→X.cell? ⟨w6.heap.size,1,none⟩=some (.string (bstr tt)):=fun X h=>(mvc (p:=⟨w6.heap.size,1,none⟩) h (by simp only;omega) (by simp only;omega)).trans mk1
      have hS0:(fun X=>X.cell? ⟨d,0,none⟩=some (.slice (some ⟨g,off,none⟩) ln cap)∧X.cell? ⟨g,off+i*4+2,none⟩=some (.int .i64 fr)∧X.cell? ⟨qb,0,none⟩=some (.string kb)∧X.cell? ⟨qb,1,none⟩=some (.string tb)∧X.cell? ⟨qb,2,none⟩=some (.int .i64 fb)∧X.cell? ⟨qb,3,none⟩=some (.int .i64 eb)∧X.cell? ⟨qb,4,none⟩=some (.slice ab nb cb)∧X.cell? ⟨w6.heap.size,1,none⟩=some (.string (bstr tt))∧Mv WA.heap.size q WA X) WA.drew:=⟨c0,y2,b0,b1,b2,b3,b4,mk1,(Mv.refl _ _ _).drewN 1⟩;dsimp only at hS0;have hBX:Below WA.heap.size WA ((WA.alloc (.cells #[.string k,.string t,.int .i64 f,.int .i64 e,.slice sl sn sc,.string kb,.string tb,.int .i64 fb,.int .i64 eb,.slice ab nb cb] 25)).drew):=((Below.refl _ _).alloc (Nat.le_refl _) _).drew
      have cP:∀ X,Below WA.heap.size WA X→(X.cell? ⟨d,0,none⟩=some (.slice (some ⟨g,off,none⟩) ln cap)∧X.cell? ⟨g,off+i*4+2,none⟩=some (.int .i64 fr)∧X.cell? ⟨qb,0,none⟩=some (.string kb)∧X.cell? ⟨qb,1,none⟩=some (.string tb)∧X.cell? ⟨qb,2,none⟩=some (.int .i64 fb)∧X.cell? ⟨qb,3,none⟩=some (.int .i64 eb)∧X.cell? ⟨qb,4,none⟩=some (.slice ab nb cb)∧X.cell? ⟨w6.heap.size,1,none⟩=some (.string (bstr tt))∧Mv WA.heap.size q WA X)→Calls Tryz.prog 52 #[.pointer (some ⟨d,0,none⟩),.string ⟨#[98,105,110,97,114,121]⟩,.string (bstr tt),.int .i64 fr,.slice (some ⟨WA.heap.size,0,none⟩) 2 2] X fun en w'=>en=.returned (.agg #[.string ⟨#[98,105,110,97,114,121]⟩,.string (bstr tt),.int .i64 fr,.int .i64 (toT L ob.at),.slice (some ⟨WA.heap.size,0,none⟩) 2 2])∧(w'.cell? ⟨d,0,none⟩=some (.slice (some ⟨g,off,none⟩) ln cap)∧w'.cell? ⟨g,off+i*4+2,none⟩=some (.int .i64 fr)∧w'.cell? ⟨qb,0,none⟩=some (.string kb)∧w'.cell? ⟨qb,1,none⟩=some (.string tb)∧w'.cell? ⟨qb,2,none⟩=some (.int .i64 fb)∧w'.cell? ⟨qb,3,none⟩=some (.int .i64 eb)∧w'.cell? ⟨qb,4,none⟩=some (.slice ab nb cb)∧w'.cell? ⟨w6.heap.size,1,none⟩=some (.string (bstr tt))∧Mv WA.heap.size q WA w')∧Hid (Went d lv ob.at false X w')∧w'.cell? ⟨q,0,none⟩=some (.string k)∧w'.cell? ⟨q,1,none⟩=some (.string t)∧w'.cell? ⟨q,2,none⟩=some (.int .i64 f)∧w'.cell? ⟨q,3,none⟩=some (.int .i64 e)∧w'.cell? ⟨q,4,none⟩=some (.slice sl sn sc)∧(w'.frozen? ⟨q,0,none⟩=false∧w'.frozen? ⟨q,1,none⟩=false∧w'.frozen? ⟨q,2,none⟩=false∧w'.frozen? ⟨q,3,none⟩=false∧w'.frozen? ⟨q,4,none⟩=false):=by
       intro X hX _;refine (part_any d L lv ob.at false ⟨#[98,105,110,97,114,121]⟩ (bstr tt) fr _ 2 2 X (hRA.below hX) (HTA.out.mv (Mv.of_below hX) (Nat.le_refl _)) hleA hL).mono ?_;rintro e w' ⟨rfl,h2⟩;have h3:Mv WA.heap.size d WA w':=(Mv.of_below hX).trans (h2.2.mono hX.size)
       have h4:Below WA.heap.size WA w':=⟨h3.os,h3.tape,h3.output,h3.size,fun g' hg'=>by
        by_cases hd':g'=d
        ·subst hd';exact h2.1.trans hRA.symm
        ·exact h3.block g' hg' hd'⟩
       have h5:Mv WA.heap.size q WA w':=Mv.of_below h4;obtain ⟨⟨u0,u1,u2,u3,u4⟩,uz⟩:=five_cells ((h4.block q (by omega)).trans hqA)
       exact ⟨rfl,⟨hc0 _ h5,hc1 _ h5,hc2 _ h5,hc3 _ h5,hc4 _ h5,hc5 _ h5,hc6 _ h5,hc7 _ h5,h5⟩,hid h2,u0,u1,u2,u3,u4,uz 0,uz 1,uz 2,uz 3,uz 4⟩
      have HRA:=hid hRA;have HM6A:=hid hM6A;have HMA:=hid hMA;have HQA:=hid hqA;have HBX:=hid hBX;clear mvc hkA hmk hatA hM6A hMA
      have hii:(i:Int)<(ln:Int):=by omega
      have hii0:(0:Int)≤(i:Int):=by omega
      go_upto_region 8 with fail
      refine wp_region_held_drew (S:=fun X=>X.cell? ⟨d,0,none⟩=some (.slice (some ⟨g,off,none⟩) ln cap)∧X.cell? ⟨g,off+i*4+2,none⟩=some (.int .i64 fr)∧X.cell? ⟨qb,0,none⟩=some (.string kb)∧X.cell? ⟨qb,1,none⟩=some (.string tb)∧X.cell? ⟨qb,2,none⟩=some (.int .i64 fb)∧X.cell? ⟨qb,3,none⟩=some (.int .i64 eb)∧X.cell? ⟨qb,4,none⟩=some (.slice ab nb cb)∧X.cell? ⟨w6.heap.size,1,none⟩=some (.string (bstr tt))∧Mv WA.heap.size q WA X) (by kernel_rfl) hS0 (fun hHeld=>?_);refine wpAnyH_take (i:=0) (oi:=({ dst:=some 73,op:=Op.move (Operand.tmp 0),type:=40,pos := "ref.go:279",after:=#[],guard:=none }:Oper)) (v:=.pointer (some ⟨d,0,none⟩)) rfl (by kernel_rfl) (by kernel_rfl) (by kernel_rfl) (fun _ _ _ h=>h) (Or.inl ⟨by rfl,fun X hX=>rfl⟩) hHeld ?_
      (try simp only [Act.put,OP.a,OP.b,OP.c])
      refine wpAnyH_take (i:=1) (oi:=({ dst:=some 74,op:=Op.fieldAddr 48 (Operand.tmp 7) 1,type:=0,pos := "ref.go:279",after:=#[],guard:=none }:Oper)) (v:=.pointer (some ⟨w6.heap.size,1,none⟩)) rfl (by kernel_rfl) (by kernel_rfl) (by kernel_rfl) (fun _ _ _ h=>h) (Or.inl ⟨by rfl,fun X hX=>rfl⟩) hHeld ?_
      (try simp only [Act.put,OP.a,OP.b,OP.c])
      refine wpAnyH_take (i:=2) (oi:=({ dst:=some 75,op:=Op.load 9 (Operand.tmp 74),type:=9,pos := "ref.go:279",after:=#[{ on:=1,ground:=Ground.data }],guard:=none }:Oper)) (v:=.string (bstr tt)) rfl (by kernel_rfl) (by kernel_rfl) (by kernel_rfl) (fun _ _ _ h=>h) (Or.inl ⟨by rfl,fun X hX=>by obtain ⟨q0,q1,q2,q3,q4,q5,q6,q7,-⟩:=hX;go_simp⟩) hHeld ?_
      (try simp only [Act.put,OP.a,OP.b,OP.c])
      refine wpAnyH_take (i:=3) (oi:=({ dst:=some 76,op:=Op.move (Operand.tmp 0),type:=40,pos := "ref.go:279",after:=#[],guard:=none }:Oper)) (v:=.pointer (some ⟨d,0,none⟩)) rfl (by kernel_rfl) (by kernel_rfl) (by kernel_rfl) (fun _ _ _ h=>h) (Or.inl ⟨by rfl,fun X hX=>rfl⟩) hHeld ?_
      (try simp only [Act.put,OP.a,OP.b,OP.c])
      refine wpAnyH_take (i:=4) (oi:=({ dst:=some 77,op:=Op.nilCheck (Operand.tmp 76),type:=0,pos := "ref.go:279",after:=#[{ on:=3,ground:=Ground.data }],guard:=none }:Oper)) (v:=.pointer (some ⟨d,0,none⟩)) rfl (by kernel_rfl) (by kernel_rfl) (by kernel_rfl) (fun _ _ _ h=>h) (Or.inl ⟨by rfl,fun X hX=>rfl⟩) hHeld ?_
      (try simp only [Act.put,OP.a,OP.b,OP.c])
      refine wpAnyH_take (i:=5) (oi:=({ dst:=some 78,op:=Op.fieldAddr 44 (Operand.tmp 77) 0,type:=0,pos := "ref.go:279",after:=#[{ on:=4,ground:=Ground.data }],guard:=none }:Oper)) (v:=.pointer (some ⟨d,0,none⟩)) rfl (by kernel_rfl) (by kernel_rfl) (by kernel_rfl) (fun _ _ _ h=>h) (Or.inl ⟨by rfl,fun X hX=>rfl⟩) hHeld ?_
      (try simp only [Act.put,OP.a,OP.b,OP.c])
      refine wpAnyH_take (i:=6) (oi:=({ dst:=some 79,op:=Op.load 41 (Operand.tmp 78),type:=41,pos := "ref.go:279",after:=#[{ on:=5,ground:=Ground.data }],guard:=none }:Oper)) (v:=.slice (some ⟨g,off,none⟩) ln cap) rfl (by kernel_rfl) (by kernel_rfl) (by kernel_rfl) (fun _ _ _ h=>h) (Or.inl ⟨by rfl,fun X hX=>by obtain ⟨q0,q1,q2,q3,q4,q5,q6,q7,-⟩:=hX;go_simp⟩) hHeld ?_
      (try simp only [Act.put,OP.a,OP.b,OP.c])
      refine wpAnyH_take (i:=7) (oi:=({ dst:=some 80,op:=Op.move (Operand.tmp 5),type:=3,pos := "ref.go:279",after:=#[],guard:=none }:Oper)) (v:=.int .i64 i) rfl (by kernel_rfl) (by kernel_rfl) (by kernel_rfl) (fun _ _ _ h=>h) (Or.inl ⟨by rfl,fun X hX=>rfl⟩) hHeld ?_
      (try simp only [Act.put,OP.a,OP.b,OP.c])
      refine wpAnyH_take (i:=8) (oi:=({ dst:=some 81,op:=Op.indexAddr 41 (Operand.tmp 79) (Operand.tmp 80),type:=0,pos := "ref.go:279",after:=#[{ on:=6,ground:=Ground.data },{ on:=7,ground:=Ground.data }],guard:=none }:Oper)) (v:=.pointer (some ⟨g,off+i*4,none⟩)) rfl (by kernel_rfl) (by kernel_rfl) (by kernel_rfl) (fun _ _ _ h=>h) (Or.inl ⟨by rfl,fun X hX=>idx_tok 79 80 g off ln i cap X rfl rfl rfl (by omega)⟩) hHeld ?_
      (try simp only [Act.put,OP.a,OP.b,OP.c])
      refine wpAnyH_take (i:=9) (oi:=({ dst:=some 82,op:=Op.fieldAddr 48 (Operand.tmp 81) 2,type:=0,pos := "ref.go:279",after:=#[{ on:=8,ground:=Ground.data }],guard:=none }:Oper)) (v:=.pointer (some ⟨g,off+i*4+2,none⟩)) rfl (by kernel_rfl) (by kernel_rfl) (by kernel_rfl) (fun _ _ _ h=>h) (Or.inl ⟨by rfl,fun X hX=>rfl⟩) hHeld ?_
      (try simp only [Act.put,OP.a,OP.b,OP.c])
      refine wpAnyH_take (i:=10) (oi:=({ dst:=some 83,op:=Op.load 3 (Operand.tmp 82),type:=3,pos := "ref.go:279",after:=#[{ on:=9,ground:=Ground.data }],guard:=none }:Oper)) (v:=.int .i64 fr) rfl (by kernel_rfl) (by kernel_rfl) (by kernel_rfl) (fun _ _ _ h=>h) (Or.inl ⟨by rfl,fun X hX=>by obtain ⟨q0,q1,q2,q3,q4,q5,q6,q7,-⟩:=hX;go_simp⟩) hHeld ?_
      (try simp only [Act.put,OP.a,OP.b,OP.c])
      refine wpAnyH_take (i:=12) (oi:=({ dst:=some 85,op:=Op.load 25 (Operand.tmp 8),type:=25,pos := "ref.go:279",after:=#[],guard:=none }:Oper)) (v:=.agg #[.string kb,.string tb,.int .i64 fb,.int .i64 eb,.slice ab nb cb]) rfl (by kernel_rfl) (by kernel_rfl) (by kernel_rfl) (fun _ _ _ h=>h) (Or.inl ⟨by rfl,fun X hX=>by obtain ⟨q0,q1,q2,q3,q4,q5,q6,q7,-⟩:=hX;go_simp⟩) hHeld ?_
      (try simp only [Act.put,OP.a,OP.b,OP.c])
      refine wpAnyH_ready (rs:=[11]) (by kernel_rfl) (by simp) ?_;refine (AllReadyH.cons (o:=({ dst:=some 84,op:=Op.load 25 (Operand.tmp 6),type:=25,pos := "ref.go:279",after:=#[],guard:=none }:Oper)) rfl (fun K hK=>?_) AllReadyH.nil);refine wanted_step (by kernel_rfl) ?_
      go_simp
      refine hK.out _ _ (hHeld) (fun hHeld=>?_)
      (try simp only [Act.put,OP.a,OP.b,OP.c])
      clear hK K;refine wpAnyH_ready (rs:=[13]) (by kernel_rfl) (by simp) ?_;refine (AllReadyH.cons (o:=({ dst:=some 86,op:=Op.buildSlice 23 2 #[(0,Operand.tmp 84),(1,Operand.tmp 85)],type:=23,pos := "ref.go:279",after:=#[{ on:=11,ground:=Ground.data },{ on:=12,ground:=Ground.data }],guard:=none }:Oper)) rfl (fun K hK=>?_) AllReadyH.nil);refine wanted_step (by kernel_rfl) ?_
      go_simp
      have hS13:(fun X=>X.cell? ⟨d,0,none⟩=some (.slice (some ⟨g,off,none⟩) ln cap)∧X.cell? ⟨g,off+i*4+2,none⟩=some (.int .i64 fr)∧X.cell? ⟨qb,0,none⟩=some (.string kb)∧X.cell? ⟨qb,1,none⟩=some (.string tb)∧X.cell? ⟨qb,2,none⟩=some (.int .i64 fb)∧X.cell? ⟨qb,3,none⟩=some (.int .i64 eb)∧X.cell? ⟨qb,4,none⟩=some (.slice ab nb cb)∧X.cell? ⟨w6.heap.size,1,none⟩=some (.string (bstr tt))∧Mv WA.heap.size q WA X) ((WA.alloc (.cells #[.string k,.string t,.int .i64 f,.int .i64 e,.slice sl sn sc,.string kb,.string tb,.int .i64 fb,.int .i64 eb,.slice ab nb cb] 25)).drew):=by
       have h:=(Mv.of_below (d:=q) hBX)
       exact ⟨hc0 _ h,hc1 _ h,hc2 _ h,hc3 _ h,hc4 _ h,hc5 _ h,hc6 _ h,hc7 _ h,h⟩
      refine hK.out _ _ (hS13) (fun hHeld=>?_)
      (try simp only [Act.put,OP.a,OP.b,OP.c])
      clear hK K;refine wpAnyH_ready (rs:=[14]) (by kernel_rfl) (by simp) ?_;refine (AllReadyH.cons (o:=({ dst:=some 87,op:=Op.call { callee:=Callee.value (Operand.func 52),args:=#[Operand.tmp 73,Operand.const (Value.string { data:=#[98,105,110,97,114,121] }),Operand.tmp 75,Operand.tmp 83,Operand.tmp 86],argTypes:=#[40,9,9,3,23] },type:=25,pos := "ref.go:279",after:=#[{ on:=0,ground:=Ground.data },{ on:=2,ground:=Ground.data },{ on:=10,ground:=Ground.data },{ on:=13,ground:=Ground.data }],guard:=none }:Oper)) rfl (fun K hK=>?_) AllReadyH.nil);refine wanted_step (by kernel_rfl) ?_
      go_simp
      go_at_call 52
      refine (cP _ hBX hHeld).mono ?_;rintro e3 wP ⟨rfl,hSP,HWP,u0,u1,u2,u3,u4,v0,v1,v2,v3,v4⟩;dsimp only;refine hK.out _ _ (hSP) (fun hHeldP=>?_)
      (try simp only [Act.put,OP.a,OP.b,OP.c])
      clear hK K;refine wpAnyH_ready (rs:=[15]) (by kernel_rfl) (by simp) ?_;refine (AllReadyH.cons (o:=({ dst:=none,op:=Op.store 25 (Operand.tmp 6) (Operand.tmp 87),type:=0,pos := "ref.go:279",after:=#[{ on:=14,ground:=Ground.data },{ on:=14,ground:=Ground.chain },{ on:=0,ground:=Ground.phase },{ on:=1,ground:=Ground.phase },{ on:=2,ground:=Ground.phase },{ on:=3,ground:=Ground.phase },{ on:=4,ground:=Ground.phase },{ on:=5,ground:=Ground.phase },{ on:=6,ground:=Ground.phase },{ on:=7,ground:=Ground.phase },{ on:=8,ground:=Ground.phase },{ on:=9,ground:=Ground.phase },{ on:=10,ground:=Ground.phase },{ on:=11,ground:=Ground.phase },{ on:=12,ground:=Ground.phase },{ on:=13,ground:=Ground.phase },{ on:=14,ground:=Ground.phase }],guard:=none }:Oper)) rfl (fun K hK=>?_) AllReadyH.nil);refine wanted_step (by kernel_rfl) ?_
      go_simp
      have hS15:(fun X=>X.cell? ⟨d,0,none⟩=some (.slice (some ⟨g,off,none⟩) ln cap)∧X.cell? ⟨g,off+i*4+2,none⟩=some (.int .i64 fr)∧X.cell? ⟨qb,0,none⟩=some (.string kb)∧X.cell? ⟨qb,1,none⟩=some (.string tb)∧X.cell? ⟨qb,2,none⟩=some (.int .i64 fb)∧X.cell? ⟨qb,3,none⟩=some (.int .i64 eb)∧X.cell? ⟨qb,4,none⟩=some (.slice ab nb cb)∧X.cell? ⟨w6.heap.size,1,none⟩=some (.string (bstr tt))∧Mv WA.heap.size q WA X) (((((wP.setCell ⟨q,0,none⟩ (.string ⟨#[98,105,110,97,114,121]⟩)).setCell ⟨q,1,none⟩ (.string (bstr tt))).setCell ⟨q,2,none⟩ (.int .i64 fr)).setCell ⟨q,3,none⟩ (.int .i64 (toT L ob.at))).setCell ⟨q,4,none⟩ (.slice (some ⟨WA.heap.size,0,none⟩) 2 2)):=by
       have h:Mv WA.heap.size q WA (((((wP.setCell ⟨q,0,none⟩ (.string ⟨#[98,105,110,97,114,121]⟩)).setCell ⟨q,1,none⟩ (.string (bstr tt))).setCell ⟨q,2,none⟩ (.int .i64 fr)).setCell ⟨q,3,none⟩ (.int .i64 (toT L ob.at))).setCell ⟨q,4,none⟩ (.slice (some ⟨WA.heap.size,0,none⟩) 2 2)):=((((hSP.2.2.2.2.2.2.2.2.setCell 0 _).setCell 1 _).setCell 2 _).setCell 3 _).setCell 4 _
       exact ⟨hc0 _ h,hc1 _ h,hc2 _ h,hc3 _ h,hc4 _ h,hc5 _ h,hc6 _ h,hc7 _ h,h⟩
      refine hK.out _ _ (hS15) (fun hHeldQ=>?_)
      (try simp only [Act.put,OP.a,OP.b,OP.c])
      clear hK K;clear hHeld hHeldP hHeldQ hS13 hS15;refine wpAnyH_done (by kernel_rfl) ?_ _
      obtain ⟨x,j,hobx⟩:∃ x j,ob=.ok x j:=by
       cases ob with
       | ok x j=>exact ⟨x,j,rfl⟩
       | bad j=>cases hobb
      obtain ⟨a,ja,hoaa⟩:∃ a j,o=.ok a j:=by
       cases o with
       | ok x j=>exact ⟨x,j,rfl⟩
       | bad j=>cases hob
      have hatj:ob.at=j:=by rw [hobx];rfl
      have hMP:Mv WA.heap.size q WA wP:=hSP.2.2.2.2.2.2.2.2;obtain ⟨WF,hWF⟩:∃ W,(((((wP.setCell ⟨q,0,none⟩ (.string ⟨#[98,105,110,97,114,121]⟩)).setCell ⟨q,1,none⟩ (.string (bstr tt))).setCell ⟨q,2,none⟩ (.int .i64 fr)).setCell ⟨q,3,none⟩ (.int .i64 (toT L ob.at))).setCell ⟨q,4,none⟩ (.slice (some ⟨WA.heap.size,0,none⟩) 2 2))=W:=⟨_,rfl⟩;rw [hWF];obtain ⟨X,hX⟩:∃ X,(WA.alloc (.cells #[.string k,.string t,.int .i64 f,.int .i64 e,.slice sl sn sc,.string kb,.string tb,.int .i64 fb,.int .i64 eb,.slice ab nb cb] 25)).drew=X:=⟨_,rfl⟩;have hBX:=HBX.out;have hWP:=HWP.out;rw [hX] at hBX hWP
      have hXZ:X.heap[WA.heap.size]?=some (.cells #[.string k,.string t,.int .i64 f,.int .i64 e,.slice sl sn sc,.string kb,.string tb,.int .i64 fb,.int .i64 eb,.slice ab nb cb] 25 (0,0)):=by rw [← hX];exact heap_alloc_new WA _
      have hXs:=(Array.getElem?_eq_some_iff.1 hXZ).1;have hsX:=hBX.size;have hsP:=hWP.2.size
      have hqAs:q<WA.heap.size:=by omega
      have hFar:∀ g',g'≠q→WF.heap[g']?=wP.heap[g']?:=by
       intro g' hg';rw [← hWF]
       repeat rw [Below.heap_setCell _ _ _ _ (by show g'≠q;omega)]
      have hFA:∀ g',g'<WA.heap.size→g'≠q→g'≠d→WF.heap[g']?=WA.heap[g']?:=fun g' h1 h2 h3=>(hFar g' h2).trans ((hWP.2.block g' (by omega) h3).trans (hBX.block g' h1))
      have hPq:wP.heap[q]?=_:=((hWP.2.block q (by omega) (fun h=>hqd h.symm)).trans (hBX.block q hqAs)).trans HQA.out;have hFq:=set_row5 (a':=.string ⟨#[98,105,110,97,114,121]⟩) (b':=.string (bstr tt)) (c':=.int .i64 fr) (d':=.int .i64 (toT L ob.at)) (e':=.slice (some ⟨WA.heap.size,0,none⟩) 2 2) hPq;rw [hWF] at hFq;have hFd:Rd d lv ob.at false WF:=(hFar d hqd).trans hWP.1;have hFZ:WF.heap[WA.heap.size]?=_:=(hFar _ (by omega)).trans ((hWP.2.block _ (by omega) (by omega)).trans hXZ)
      have hsF:WF.heap.size=wP.heap.size:=by rw [← hWF];simp
      have hFM:Mv W1.heap.size d W1 WF:=(HMA.out.trans ((Mv.of_below hBX).mono HMA.out.size)).trans ((hWP.2.mono (by have:=HMA.out.size;omega)).trans (by rw [← hWF];exact five_stores HQW.out.2));have hw1:=HM1.out.size;have hw2:=HIN.out.mv.size;have hq0:=HQW.out
      have hPV:PartV WF (fun g=>w.heap.size<g∧g≠q) (.ok (.mk kBinary tt fr (toT L j) [a,x]) j) (.agg #[.string ⟨#[98,105,110,97,114,121]⟩,.string (bstr tt),.int .i64 fr,.int .i64 (toT L ob.at),.slice (some ⟨WA.heap.size,0,none⟩) 2 2]):=by
       refine partV_row hFZ ⟨by omega,by omega⟩ (fun p j' hpj=>?_) (by omega) (Nat.le_refl _)
       injection hpj with hp1 hp2
       subst hp1;refine ⟨kBinary,tt,[a,x],by rw [hatj],rfl,rfl,rfl,?_⟩;obtain ⟨k',t',f',e',a',n',c',h1,h2,h3⟩:=HIN.out.part;have h4:=congrArg (fun v:Value=>match v with|.agg xs=>xs.toList|_=>[]) h1
       simp at h4
       obtain ⟨rfl,rfl,rfl,rfl,rfl,rfl,rfl⟩:=h4;obtain ⟨u1,u2⟩:=h3 a ja hoaa;obtain ⟨v1,v2⟩:=HVB.out x j hobx;have w1:=u2.later (W':=WF) (R':=fun g=>w.heap.size<g∧g≠q) (fun g' hg' hl=>(hFA g' (by omega) hg'.2 (by omega)).trans ((HM6A.out.block g' (by omega) (by omega)).trans (HB6.out.block g' hl))) (fun g' hg'=>hg');have w2:=v2.later (W':=WF) (R':=fun g=>w.heap.size<g∧g≠q) (fun g' hg' hl=>(hFA g' (by omega) (by omega) (by omega)).trans (hbA.block g' hl)) (fun g' hg'=>⟨by omega,by omega⟩)
       show PartsIn WF _ _ (([.string k,.string t,.int .i64 f,.int .i64 e,.slice sl sn sc]:List Value)++([.string kb,.string tb,.int .i64 fb,.int .i64 eb,.slice ab nb cb]++[]))
       rw [five_of u1,five_of v1]
       exact ⟨_,_,rfl,w1,_,_,rfl,w2,rfl⟩
      have HIN2:Hid (ExprInv d L lv n i b than (fromT L i) O w W1 q (.ok (.mk kBinary tt fr (toT L j) [a,x]) j) ⟨#[98,105,110,97,114,121]⟩ (bstr tt) fr (toT L ob.at) (some ⟨WA.heap.size,0,none⟩) 2 2 m' WF):=hid ⟨by
        rw [HOO.out,hobx,hoaa,hfr2,htx]
        rfl,
       by rw [← hatj];exact hFd,hFM,hFq,hPV,by rw [← hatj];exact hleA,fun _=>by show i<j;omega,fun _=>by show m'<n∧8*(L.length - j)+3≤m';omega⟩
      have HMS:Hid (L.length+1 - atR d WF<L.length+1 - atR d wr):=hid (by rw [hFd.at,hat];omega);clear hX hXZ hFar hFA hPq hFq hFd hFZ hsF hFM hPV hWF hob hat hfu hgt hle hoa hln hst hstr htx hstr2 hfr2 hfr hobx hoaa hatj u0 u1 u2 u3 u4 v0 v1 v2 v3 v4 hSP hMP hBX hWP hc0 hc1 hc2 hc3 hc4 hc5 hc6 hc7 cP hS0
      go_wp2_with fail
      go_roundw
      case rel=>exact ⟨_,_,_,_,_,_,_,_,m',HIN2⟩
      case measure=>exact HMS.out
     ·rw [hobb] at c2
      have HIN2:Hid (ExprInv d L lv n i b than (fromT L i) O w W1 q (.bad ob.at) k t f e sl sn sc m' WA):=hid ⟨by
        rw [HOO.out]
        cases ob with
        | ok a j=>cases hobb
        | bad j=>rfl,
       by rw [hobb] at hRA;exact hRA,hMA,hqA,⟨k,t,f,e,sl,sn,sc,rfl,hsn,fun p j h=>by cases h⟩,hleA,(fun h=>by cases h),(fun h=>by cases h)⟩
      have HMS:Hid (L.length+1 - atR d WA<L.length+1 - atR d wr):=hid (by rw [hatA,hat];omega);clear hRA hMA hqA hM6A hkA hatA hgeA hleA hob hat hfu hgt hle hoa hln hst hstr htx hstr2
      go_wp2_with fail
      go_roundw
      case rel=>exact ⟨_,k,t,f,e,sl,sn,sc,m',HIN2⟩
      case measure=>exact HMS.out
    ·have hO:O=o:=by
      rw [HIN.out.out]
      cases o with
      | bad j=>cases hob
      | ok a j =>
       obtain ⟨m',rfl⟩:∃ m',m=m'+1:=⟨m - 1,by omega⟩;have hj:j=oa:=hoa
       show exprs L (m'+1) than _ a j=_
       rw [exprs_succ,if_neg (fun h=>hth (by rw [← hst,← hj];exact h.2))]
     have HO:=hid hO;clear hO hob hat hfu hgt hle hoa hln hst hstr htx x0 x1 x2 x3 x4 x5 x6 fz
     go_wp2_with fail
     have hp:=set_row5 (a':=.string k) (b':=.string t) (c':=.int .i64 f) (d':=.int .i64 e) (e':=.slice sl sn sc) (show w6.heap[w.heap.size]?=_ from HQ6.out);refine bodyPost_ret (v:=.agg #[.string k,.string t,.int .i64 f,.int .i64 e,.slice sl sn sc]) (results_cell_row rfl _ _ w.heap.size 25 #[.string k,.string t,.int .i64 f,.int .i64 e,.slice sl sn sc] (0,0) _ (by rfl) hp Tryz.underlying25 rfl (by kernel_rfl)) rfl ?_;rw [← HQ.out,HO.out]
     exact reads_end hd (HM1.out.trans ((HIN.out.mv.trans ((Mv.of_below HB6.out).mono HIN.out.mv.size)).mono HM1.out.size)) (HIN.out.rd.below HB6.out) rfl rfl (HIN.out.part.later (fun g _ hl=>HB6.out.block g hl) (fun g hg=>hg.1)) ⟨Nat.le_refl _,Nat.le_refl _⟩
   ·obtain ⟨la,cap,hlv,_⟩:=HTr.out
    rw [hlv,hln] at c0;rw [hoa] at c1
    have hO:O=o:=by
     rw [HIN.out.out]
     cases o with
     | bad j=>cases hob
     | ok a j =>
      obtain ⟨m',rfl⟩:∃ m',m=m'+1:=⟨m - 1,by omega⟩;have hj:j=oa:=hoa
      show exprs L (m'+1) than _ a j=_
      rw [exprs_succ,if_neg (fun h=>hlt (by omega))]
    have HO:=hid hO;clear hO hob hat hfu hgt hle hoa hln
    go_upto_region 3 with fail
    go_quiet (fail)
    go_wp2_with fail
    have hp:=set_row5 (a':=.string k) (b':=.string t) (c':=.int .i64 f) (d':=.int .i64 e) (e':=.slice sl sn sc) (show (wr.drewN nq).heap[w.heap.size]?=_ from HQ7.out);refine bodyPost_ret (v:=.agg #[.string k,.string t,.int .i64 f,.int .i64 e,.slice sl sn sc]) (results_cell_row rfl _ _ w.heap.size 25 #[.string k,.string t,.int .i64 f,.int .i64 e,.slice sl sn sc] (0,0) _ (by rfl) hp Tryz.underlying25 rfl (by kernel_rfl)) rfl ?_;rw [← HQ.out,HO.out]
    exact reads_end hd (HM1.out.trans ((HIN.out.mv.trans (((Mv.refl wr.heap.size d wr).drewN nq).mono HIN.out.mv.size)).mono HM1.out.size)) (HIN.out.rd.drewN nq) rfl rfl (HIN.out.part.later (fun g _ _=>rfl) (fun g hg=>hg.1)) ⟨Nat.le_refl _,Nat.le_refl _⟩
  ·have c2:=HIN.out.rd.c2
   rw [hob] at c2
   have hO:O=o:=by
    rw [HIN.out.out]
    cases o with
    | ok a j=>cases hob
    | bad j=>rfl
   have HO:=hid hO;clear hO hob hat
   go_upto_region 3 with fail
   go_quiet (fail)
   go_wp2_with fail
   have hp:=set_row5 (a':=.string k) (b':=.string t) (c':=.int .i64 f) (d':=.int .i64 e) (e':=.slice sl sn sc) (show (wr.drewN nq).heap[w.heap.size]?=_ from HQ7.out);refine bodyPost_ret (v:=.agg #[.string k,.string t,.int .i64 f,.int .i64 e,.slice sl sn sc]) (results_cell_row rfl _ _ w.heap.size 25 #[.string k,.string t,.int .i64 f,.int .i64 e,.slice sl sn sc] (0,0) _ (by rfl) hp Tryz.underlying25 rfl (by kernel_rfl)) rfl ?_;rw [← HQ.out,HO.out]
   exact reads_end hd (HM1.out.trans ((HIN.out.mv.trans (((Mv.refl wr.heap.size d wr).drewN nq).mono HIN.out.mv.size)).mono HM1.out.size)) (HIN.out.rd.drewN nq) rfl rfl (HIN.out.part.later (fun g _ _=>rfl) (fun g hg=>hg.1)) ⟨Nat.le_refl _,Nat.le_refl _⟩
end Go.Proofs.YtmclaaonlhnbmaaGreatDoor.T
