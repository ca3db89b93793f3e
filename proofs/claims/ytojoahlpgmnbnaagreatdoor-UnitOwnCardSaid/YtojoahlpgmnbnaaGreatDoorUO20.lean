/- What the claim needs of the texts TPrefix, TList. -/
import Derived.Test.YtojoahlpgmnbnaaGreatDoorUOOp
import Derived.Test.YtojoahlpgmnbnaaGreatDoorUO19
import Derived.Test.YtojoahlpgmnbnaaGreatDoorUO18
import Derived.Laws.AppendOwn
import Derived.Laws.OwnMore
import Derived.OwnWalk
import Derived.Maps.AppendAt
set_option maxRecDepth 20000
set_option maxHeartbeats 16000000
namespace Go.Proofs.YtojoahlpgmnbnaaGreatDoor
namespace T
open Go.RowKit
open Go.Lib hiding intOf
open U S L
def Tj (j:Nat):UInt8:=match j with
 | 0=>38
 | 1=>42
 | 2=>45
 | _=>33
theorem prefix_at {L:List aZ} {m i j:Nat} (hj:j<4) (h0:∀ k,k<j→bG L [Tj k] i=false) (h:bG L [Tj j] i=true):cu L (m+1) i=(cu L m (i+1)).next fun e k=>part L jL [Tj j] (bQ L i) [e] k:=by
 rw [uI]
 rcases j with _|_|_|_|j
 ·rw [ay (show bG L [38] i=true from h)];rfl
 ·rw [ai (by rw [show bG L [38] i=false from h0 0 (by omega)];decide),ay (show bG L [42] i=true from h)];rfl
 ·rw [ai (by rw [show bG L [38] i=false from h0 0 (by omega)];decide),ai (by rw [show bG L [42] i=false from h0 1 (by omega)];decide),ay (show bG L [45] i=true from h)];rfl
 ·rw [ai (by rw [show bG L [38] i=false from h0 0 (by omega)];decide),ai (by rw [show bG L [42] i=false from h0 1 (by omega)];decide),ai (by rw [show bG L [45] i=false from h0 2 (by omega)];decide),ay (show bG L [33] i=true from h)];rfl
 ·omega
theorem Ps {L:List aZ} {m i:Nat} (h0:∀ k,k<4→bG L [Tj k] i=false):cu L (m+1) i=(operand L m i).next fun a j=>tails L m (bQ L i) a j:=by
 rw [uI,ai (by rw [show bG L [38] i=false from h0 0 (by omega)];decide),ai (by rw [show bG L [42] i=false from h0 1 (by omega)];decide),ai (by rw [show bG L [45] i=false from h0 2 (by omega)];decide),ai (by rw [show bG L [33] i=false from h0 3 (by omega)];decide)]
theorem VW {o:Oper} {a:Act} (x y g off n i c:Nat) (W:World) (ho:o.op=.indexAddr 39 (.tmp x) (.tmp y)) (h1:a.eval (.tmp x)=.slice (some ⟨g,off,none⟩) n c) (h2:a.eval (.tmp y)=.int .i64 i) (hin:i<n):(execOp a.eval o).run Tryz.prog W=.ok (.value (.pointer (some ⟨g,off+i,none⟩))) W:=by
 have hm:(0:Int)≤(i:Int):=by omega
 have hm2:(i:Int)<(n:Int):=by omega
 have hr:(Instr.indexAt 39 (.slice (some ⟨g,off,none⟩) n c) (.int .i64 i)).run Tryz.prog W=.ok (.pointer (some ⟨g,off+i,none⟩)) W:=by
  simp [go_sem]
  intro h
  omega
 unfold execOp
 rw [ho];simp only [h1,h2,iV,hr,eP,iW]
theorem J5 {W:World} {g j:Nat} {t:TypeId} (h:W.heap[g]?=some (.cells #[.string ⟨#[38]⟩,.string ⟨#[42]⟩,.string ⟨#[45]⟩,.string ⟨#[33]⟩] t (0,0))) (hj:j<4):W.cell? ⟨g,j,none⟩=some (.string (aU [Tj j])):=by
 unfold World.cell?
 rw [h]
 rcases j with _|_|_|_|j
 ·rfl
 ·rfl
 ·rfl
 ·rfl
 ·omega
theorem VX {o:Out By} {L:List aZ} {K:By} {F:Int} (ks:List Pt):(o.next fun s j=>part L K s F ks j).at=o.at∧(o.next fun s j=>part L K s F ks j).aA=o.aA:=by cases o <;> exact ⟨rfl,rfl⟩
theorem DW {o:Out Unit} {L:List aZ} {K T:By} {F:Int} (ks:List Pt):(o.next fun _ j=>part L K T F ks j).at=o.at∧(o.next fun _ j=>part L K T F ks j).aA=o.aA:=by cases o <;> exact ⟨rfl,rfl⟩
structure Boxed (d:Nat) (lv:Value) (i:Nat) (b:Bool) (q:Nat) (cs new:Array Value) (WA WF:World):Prop where
 rd:Rd d lv i b WF
 box:WF.heap[q]?=some (.cells new 49 (0,0))
 row:WF.heap[WA.heap.size]?=some (.cells cs 49 (0,0))
 far:∀ g,g<WA.heap.size→g≠q→g≠d→WF.heap[g]?=WA.heap[g]?
 mv:∀ B,B≤q→Mv B d WA WF
theorem boxed {d i q:Nat} {lv:Value} {b:Bool} {cs:Array Value} {x0 x1 x2 x3 x4 y0 y1 y2 y3 y4:Value} {WA Z wP:World} (hZ:Below WA.heap.size WA Z) (hrow:Z.heap[WA.heap.size]?=some (.cells cs 49 (0,0))) (hw:kz d lv i b Z wP) (hq:q<WA.heap.size) (hd:d<WA.heap.size) (qz:q≠d) (afG:WA.heap[q]?=some (.cells #[x0,x1,x2,x3,x4] 49 (0,0))) :
  Boxed d lv i b q cs #[y0,y1,y2,y3,y4] WA (((((wP.setCell ⟨q,0,none⟩ y0).setCell ⟨q,1,none⟩ y1).setCell ⟨q,2,none⟩ y2).setCell ⟨q,3,none⟩ y3).setCell ⟨q,4,none⟩ y4):=by
 have far:∀ g,g≠q→(((((wP.setCell ⟨q,0,none⟩ y0).setCell ⟨q,1,none⟩ y1).setCell ⟨q,2,none⟩ y2).setCell ⟨q,3,none⟩ y3).setCell ⟨q,4,none⟩ y4).heap[g]?=wP.heap[g]?:=by
  intro g hg
  repeat rw [ak _ _ _ _ (by show g≠q;omega)]
 have Z7:=(af.1 hrow).1;have TX:wP.heap[q]?=_:=((hw.2.block q (by omega) qz).trans (hZ.block q hq)).trans afG;refine ⟨(far d (fun h=>qz h.symm)).trans hw.1,dS TX,(far _ (by omega)).trans ((hw.2.block _ Z7 (by omega)).trans hrow),fun g h1 h2 h3=>(far g h2).trans ((hw.2.block g (by omega) h3).trans (hZ.block g h1)),fun B hB=>?_⟩
 exact ((Mv.of_below hZ).mono (by omega)).trans ((hw.2.mono (by omega)).trans (vX hB))
theorem gV {W:World} {q:Nat} {a b c e f a' b' c' e' f':Value} {t:TypeId} (h:W.heap[q]?=some (.cells #[a,b,c,e,f] t (0,0))) :
  ∃ W',((((W.setCell ⟨q,0,none⟩ a').setCell ⟨q,1,none⟩ b').setCell ⟨q,2,none⟩ c').setCell ⟨q,3,none⟩ e').setCell ⟨q,4,none⟩ f'=W'∧W'.heap[q]?=some (.cells #[a',b',c',e',f'] t (0,0))∧(∀ g,g≠q→W'.heap[g]?=W.heap[g]?)∧W'.heap.size=W.heap.size:=by
 refine ⟨_,rfl,dS h,fun g hg=>?_,by simp⟩
 repeat rw [ak _ _ _ _ (by show g≠q;omega)]
structure uJ (d:Nat) (L:List aZ) (lv:Value) (i:Nat) (fr:Int) (O:Out Pt) (w W1:World) (n q:Nat) (more:Bool) (o:Out Pt) (k t:ByteArray) (f e:Int) (sl:Option Addr) (sn sc m:Nat) (W:World):Prop where
 out:O=if more then o.next fun a j=>tails L m fr a j else o
 rd:Rd d lv o.at o.aA W
 mv:Mv W1.heap.size d W1 W
 box:W.heap[q]?=some (.cells #[.string k,.string t,.int .i64 f,.int .i64 e,.slice sl sn sc] 49 (0,0))
 part:qh W (fun g=>w.heap.size<g∧g≠q) o (.agg #[.string k,.string t,.int .i64 f,.int .i64 e,.slice sl sn sc])
 le:o.at≤L.length
 gt:o.aA=false→i<o.at
 fuel:o.aA=false→m<n∧8*(L.length - o.at)+1≤m
theorem uJ.moved {d:Nat} {L:List aZ} {lv:Value} {i:Nat} {fr:Int} {O:Out Pt} {w W1:World} {n q:Nat} {more more':Bool} {o:Out Pt} {k t:ByteArray} {f e:Int} {sl:Option Addr} {sn sc m:Nat} {W W':World}
  (h:uJ d L lv i fr O w W1 n q more o k t f e sl sn sc m W) (hm:Mv W.heap.size d W W') (hr:Rd d lv o.at o.aA W') (hd:d≤w.heap.size) (qz:q≠d) (ho:O=if more' then o.next fun a j=>tails L m fr a j else o):uJ d L lv i fr O w W1 n q more' o k t f e sl sn sc m W' :=
 ⟨ho,hr,h.mv.trans (hm.mono h.mv.size),(hm.block q (af.1 h.box).1 qz).trans h.box,h.part.later (fun g hg hl=>hm.block g hl (by omega)) (fun _ hg=>hg),h.le,h.gt,h.fuel⟩
theorem jG {o:Out Pt} (h:o.aA=false):o=.ok o.pt o.at:=by cases o with
 | ok a j=>rfl
 | bad j=>cases h
theorem J6 (d:Nat) (L:List aZ) (lv:Value) (hL:L.length≤1000000) (n:Nat) (ihP:∀ m,n=m+1→wz d L lv m) (ihO:∀ m,n=m+1∨m=0→wW d L lv m) (ih:∀ m,m<n→Au d L lv m):wz d L lv n:=by
 intro i b w hR hT hi hn;have hd:=hR.lt;obtain ⟨W1,hW1⟩:∃ W1,w.alloc gB=W1:=⟨_,rfl⟩
 have hb1:Below w.heap.size w W1:=by rw [← hW1];exact (aj _ w).alloc (ae _) _
 have dP:=hid (Mv.of_below (d:=d) hb1)
 have hq1:W1.heap[w.heap.size]?=some (.cells #[.string ⟨#[]⟩,.string ⟨#[]⟩,.int .i64 0,.int .i64 0,.slice none 0 0] 49 (0,0)):=by rw [← hW1];exact aG w _
 have lL:Rd d lv i b W1:=hR.below hb1;have hT1:=hT.mv (Mv.of_below hb1) (ae _);have c1:=mZ d L lv i b W1 lL hT1;obtain ⟨fr,hfr⟩:∃ fr,bQ L i=fr:=⟨_,rfl⟩;rw [hfr] at c1;have Aq:=hid hfr;have HW1:=hid hW1;have jD:=hid hq1;have HR1:=hid lL;have HT1:=hid hT1;have HN:=hid hn;have HP:=hid ihP;have HOP:=hid ihO;have HI:=hid ih;obtain ⟨O,hO⟩:∃ O,start b i (cu L n i)=O:=⟨_,rfl⟩;have HO:=hid hO;rw [hO];obtain ⟨Q,hQ⟩:∃ Q,Reads d lv O w=Q:=⟨_,rfl⟩;have HQ:=hid hQ;rw [hQ];clear hW1 hq1 hb1 lL hT1 hfr hn ihP ihO ih hO hQ hR hT
 go_enter Tryz.func128,Tryz.ntmps128
 go_wp2_with fail
 rw [HW1.out];refine c1.mono ?_;intro x w2 h2;obtain ⟨rfl,hw2⟩:=h2.went HR1.out;have kG:=hid hw2.2;have HR2:=hid hw2.1;clear c1 h2 hw2
 go_upto_region 3 with fail
 obtain ⟨mk,hmk⟩:∃ q,w2.heap.size=q:=⟨_,rfl⟩;obtain ⟨W3,hW3⟩:∃ W,w2.alloc (.cells #[.string ⟨#[38]⟩,.string ⟨#[42]⟩,.string ⟨#[45]⟩,.string ⟨#[33]⟩] 9)=W:=⟨_,rfl⟩
 have hb3:Below w2.heap.size w2 W3:=by rw [← hW3];exact (aj _ w2).alloc (ae _) _
 have hm3:W3.heap[mk]?=some (.cells #[.string ⟨#[38]⟩,.string ⟨#[42]⟩,.string ⟨#[45]⟩,.string ⟨#[33]⟩] 9 (0,0)):=by rw [← hW3,← hmk];exact aG w2 _
 rw [hW3,hmk];have lq:=hid (kG.out.trans ((Mv.of_below (d:=d) hb3).mono kG.out.size));have HR3:=hid (HR2.out.below hb3);have Yi:=hid hm3;have HZ1:=hid (af.1 jD.out).1;have HZ3:Hid (W1.heap.size≤mk∧mk<W3.heap.size):=hid ⟨by rw [← hmk];exact kG.out.size,(af.1 hm3).1⟩;clear hW3 hb3 hm3 hmk kG HR2
 go_wp2_with fail
 go_loopw [5] (fun iv wr=>∃ j:Nat,iv=.int .i64 j∧j≤4∧Hid (∀ k,k<j→(!b&&bG L [Tj k] i)=false)∧Hid (Rd d lv i b wr)∧Hid (Mv W3.heap.size d W3 wr)) (fun iv _=>4 - (Go.RowKit.intOf iv).toNat)
 case atStart=>exact ⟨0,rfl,aL _,hid (fun k hk=>absurd hk (bq _)),HR3,hid (Mv.refl _ _ _)⟩
 case round =>
  obtain ⟨j,rfl,hj,HA,HR,HM⟩:=hrel;have Bh:=hid (HT1.out.mv (lq.out.trans (HM.out.mono lq.out.size)) (ae _));have ab9:=hid ((HM.out.block mk HZ3.out.2 (by have:=HZ3.out;have:=dP.out.size;omega)).trans Yi.out)
  by_cases h4:j<4
  ·have hm:=J5 ab9.out h4
   have c2:=fE d L lv i b [Tj j] wr HR.out Bh.out (by omega);obtain ⟨ms,hms⟩:∃ u,aU [Tj j]=u:=⟨_,rfl⟩;rw [hms] at hm c2;obtain ⟨R1,lL⟩:∃ R1,(!b&&bG L [Tj j] i)=R1:=⟨_,rfl⟩;rw [lL] at c2;have HA1:=hid lL;have sO:=hid hms;clear lL hms
   cases R1
   ·go_wp2_with fail
    refine c2.mono ?_;rintro x w5 ⟨rfl,jA⟩;have qA:Hid (kz d lv i b wr w5):=hid jA;clear c2 jA hm
    go_wp2_with fail
    go_roundw
    case rel=>exact ⟨j+1,by go_num,by omega,hid (fun k hk=>if h:k=j then h ▸ HA1.out else HA.out k (by omega)),hid qA.out.1,hid (HM.out.trans (qA.out.2.mono HM.out.size))⟩
    case measure=>simp [Go.RowKit.intOf];omega
   ·have hb:b=false∧bG L [Tj j] i=true:=by simpa using HA1.out
    obtain ⟨rfl,his⟩:=hb;have hil:i<L.length:=bR his;obtain ⟨m,rfl⟩:∃ m,n=m+1:=⟨n - 1,by have:=HN.out (by trivial);omega⟩;obtain ⟨o,ho⟩:∃ o,cu L m (i+1)=o:=⟨_,rfl⟩
    have qW:Hid (O=o.next fun x k=>part L jL [Tj j] fr [x] k):=hid (by
     rw [← HO.out,← Aq.out,← ho]
     exact prefix_at h4 (fun k hk=>by simpa using HA.out k hk) his)
    have Hg:Hid (o.at≤L.length):=hid (by rw [← ho];exact ((iK m).cu (i+1) hil).le);have HOE:=hid ho;clear ho his
    go_wp2_with fail
    refine c2.mono ?_;rintro x w5 ⟨rfl,jA⟩;have jA:kz d lv (i+1) false wr w5:=jA;have mK:=hid (HM.out.trans (jA.2.mono HM.out.size));have c3:=HP.out m rfl (i+1) false w5 jA.1 (Bh.out.mv jA.2 (ae _)) (by omega) (fun _=>by have:=HN.out (by trivial);omega);rw [aW,HOE.out] at c3;clear c2 jA hm
    go_wp2_with fail
    refine c3.mono ?_;rintro x w6 ⟨v,rfl,⟨k,t,f,e,sl,sn,sc,rfl,hnn,hv⟩,xe⟩;have HV:=hid hv;have Xb:=hid xe;clear c3 hv xe
    go_upto_region 9 with fail
    obtain ⟨q,hq⟩:∃ q,w6.heap.size=q:=⟨_,rfl⟩;obtain ⟨W7,TW⟩:∃ W,w6.alloc (.cells #[.string k,.string t,.int .i64 f,.int .i64 e,.slice sl sn sc] 49)=W:=⟨_,rfl⟩
    have Eg:Below w6.heap.size w6 W7:=by rw [← TW];exact (aj _ w6).alloc (ae _) _
    have jd:W7.heap[q]?=some (.cells #[.string k,.string t,.int .i64 f,.int .i64 e,.slice sl sn sc] 49 (0,0)):=by rw [← TW,← hq];exact aG w6 _
    rw [TW,hq];have nW:=hid (mK.out.trans (Xb.out.2.mono mK.out.size));have iN:=hid (nW.out.trans ((Mv.of_below (d:=d) Eg).mono nW.out.size));have sw:=hid (Xb.out.1.below Eg);have aca:=(iN.out.block mk HZ3.out.2 (by have:=HZ3.out;have:=dP.out.size;omega)).trans Yi.out;have pQ:=hid jd;have WS:=hid Eg;have Il:=nW.out.size;have z3:=HZ3.out;have z1:=HZ1.out
    have hmq:mk<q:=by omega
    have hqq:q<W7.heap.size:=(af.1 jd).1;have HQQ:Hid (w.heap.size<mk∧mk<q∧q<W7.heap.size∧q=w6.heap.size∧W3.heap.size≤w6.heap.size∧W1.heap.size≤W3.heap.size):=hid ⟨by omega,hmq,hqq,hq.symm,Il,lq.out.size⟩;have hS0:W7.drew.heap[mk]?=some (.cells #[.string ⟨#[38]⟩,.string ⟨#[42]⟩,.string ⟨#[45]⟩,.string ⟨#[33]⟩] 9 (0,0))∧W7.drew.heap[q]?=some (.cells #[.string k,.string t,.int .i64 f,.int .i64 e,.slice sl sn sc] 49 (0,0)):=⟨aca,jd⟩;have hRV:Rd d lv o.at o.aA W7.drew:=sw.out;have hMV:Mv W3.heap.size d W3 W7.drew:=iN.out.drewN 1;have hsV:W7.drew.heap.size=W7.heap.size:=rfl
    have h67:∀ g,g<w6.heap.size→W7.drew.heap[g]?=w6.heap[g]?:=fun g hg=>Eg.block g hg
    have HV6:=hid h67;clear TW Eg jd aca hq Il z3 z1 hmq hqq h67
    refine aS (S:=fun X=>X.heap[mk]?=some (.cells #[.string ⟨#[38]⟩,.string ⟨#[42]⟩,.string ⟨#[45]⟩,.string ⟨#[33]⟩] 9 (0,0))∧X.heap[q]?=some (.cells #[.string k,.string t,.int .i64 f,.int .i64 e,.slice sl sn sc] 49 (0,0))) (by kernel_rfl) hS0 fun ag=>?_
    clear hS0;have Ey:=hid hRV;have Am:=hid hMV;have yO:=hid hsV;clear hRV hMV hsV;obtain ⟨V,hV⟩:∃ V,W7.drew=V:=⟨_,rfl⟩;rw [hV] at ag Ey Am yO HV6 ⊢;clear hV;refine OP.m 0 rfl (.pointer (some ⟨d,0,none⟩)) ag ?_;simp only [OP.s];refine OP.m 1 rfl (.slice (some ⟨mk,0,none⟩) 4 4) ag ?_;simp only [OP.s];refine OP.m 2 rfl (.int .i64 j) ag ?_;simp only [OP.s];refine OP.t 3 rfl (.pointer (some ⟨mk,j,none⟩)) (fun X hX=>(VW 33 34 mk 0 4 j 4 X rfl rfl rfl h4).trans (by rw [bz])) ag ?_;simp only [OP.s];refine OP.t 4 rfl (.string ms) (fun X hX=>by have q:=J5 hX.1 h4;rw [sO.out] at q;go_simp) ag ?_;simp only [OP.s];refine OP.m 5 rfl (.int .i64 fr) ag ?_;simp only [OP.s];refine OP.t 6 rfl (.agg #[.string k,.string t,.int .i64 f,.int .i64 e,.slice sl sn sc]) (fun X hX=>by obtain ⟨q0,q1,q2,q3,q4⟩:=(aF hX.2).1;go_simp) ag ?_;simp only [OP.s]
    refine OP.r 7 rfl fun K hK=>?_
    go_simp
    obtain ⟨z,hz⟩:∃ z,V.heap.size=z:=⟨_,rfl⟩;obtain ⟨Z,hZ⟩:∃ Z,V.alloc (.cells #[.string k,.string t,.int .i64 f,.int .i64 e,.slice sl sn sc] 49)=Z:=⟨_,rfl⟩
    have hbz:Below V.heap.size V Z:=by rw [← hZ];exact (aj _ V).alloc (ae _) _
    have hrz:Z.heap[z]?=some (.cells #[.string k,.string t,.int .i64 f,.int .i64 e,.slice sl sn sc] 49 (0,0)):=by rw [← hZ,← hz];exact aG V _
    rw [hZ,hz];have NK:=yO.out;have hQQ:=HQQ.out;have wC:Z.heap[mk]?=some (.cells #[.string ⟨#[38]⟩,.string ⟨#[42]⟩,.string ⟨#[45]⟩,.string ⟨#[33]⟩] 9 (0,0))∧Z.heap[q]?=some (.cells #[.string k,.string t,.int .i64 f,.int .i64 e,.slice sl sn sc] 49 (0,0)):=⟨(hbz.block mk (by omega)).trans ag.1,(hbz.block q (by omega)).trans ag.2⟩;have hMZ:Mv W3.heap.size d W3 Z:=Am.out.trans ((Mv.of_below hbz).mono Am.out.size);have c4:=eZ d L lv o.at o.aA ⟨#[117,110,97,114,121]⟩ ms fr (some ⟨z,0,none⟩) 1 1 Z (Ey.out.below hbz) (HT1.out.mv (lq.out.trans (hMZ.mono lq.out.size)) (ae _)) Hg.out hL;obtain ⟨ez,jC⟩:∃ u,jY L o.at=u:=⟨_,rfl⟩;rw [jC] at c4;have sH:=hid jC;have Cc:=hid hbz;have Bg:=hid hrz;have qi:=hid hMZ;have xq:=hid hz;clear hZ hbz hrz hMZ jC hz hQQ NK;refine hK.out _ _ (wC) (fun jN=>?_)
    try simp only [OP.s]
    clear hK K
    refine OP.r 8 rfl fun K hK=>?_
    go_simp
    go_at_call 66
    refine c4.mono ?_;rintro x wP ⟨rfl,wD⟩;have hQQ:=HQQ.out;have NK:=yO.out;have sI:wP.heap[mk]?=some (.cells #[.string ⟨#[38]⟩,.string ⟨#[42]⟩,.string ⟨#[45]⟩,.string ⟨#[33]⟩] 9 (0,0))∧wP.heap[q]?=some (.cells #[.string k,.string t,.int .i64 f,.int .i64 e,.slice sl sn sc] 49 (0,0)):=⟨(wD.2.block mk (by have:=(af.1 jN.1).1;omega) (by have:=dP.out.size;omega)).trans jN.1,(wD.2.block q (by have:=(af.1 jN.2).1;omega) (by have:=dP.out.size;omega)).trans jN.2⟩;have Pv:=hid (qi.out.trans (wD.2.mono qi.out.size));have FN:=hid wD;clear c4 wD;dsimp only;refine hK.out _ _ (sI) (fun lT=>?_)
    try simp only [OP.s]
    clear hK K;have hq8:wP.heap[w.heap.size]?=_:=((lq.out.trans (Pv.out.mono lq.out.size)).block w.heap.size HZ1.out (by omega)).trans jD.out;obtain ⟨⟨r0,r1,r2,r3,r4⟩,gz⟩:=aF hq8;have g0:=gz 0;have g1:=gz 1;have g2:=gz 2;have g3:=gz 3;have g4:=gz 4;obtain ⟨WF,DV,Iq,J7,-⟩:=gV (a':=.string ⟨#[117,110,97,114,121]⟩) (b':=.string ms) (c':=.int .i64 fr) (e':=.int .i64 ez) (f':=.slice (some ⟨z,0,none⟩) 1 1) hq8;have oD:WF.heap[mk]?=some (.cells #[.string ⟨#[38]⟩,.string ⟨#[42]⟩,.string ⟨#[45]⟩,.string ⟨#[33]⟩] 9 (0,0))∧WF.heap[q]?=some (.cells #[.string k,.string t,.int .i64 f,.int .i64 e,.slice sl sn sc] 49 (0,0)):=⟨(J7 mk (by omega)).trans lT.1,(J7 q (by omega)).trans lT.2⟩;have HQ8:=hid hq8;have VY:=hid Iq;have TS:=hid DV;clear gz hq8 Iq J7 hQQ NK
    refine OP.r 9 rfl fun K hK=>?_
    go_simp
    refine hK.out _ _ (oD) (fun qy=>?_)
    try simp only [OP.s]
    clear hK K;clear r0 r1 r2 r3 r4 g0 g1 g2 g3 g4 DV ag jN lT qy wC sI oD;refine bL (by kernel_rfl) ?_ _
    go_wp2_with fail
    refine aB (v:=.agg #[.string ⟨#[117,110,97,114,121]⟩,.string ms,.int .i64 fr,.int .i64 ez,.slice (some ⟨z,0,none⟩) 1 1]) (aQ rfl _ _ w.heap.size 49 #[.string ⟨#[117,110,97,114,121]⟩,.string ms,.int .i64 fr,.int .i64 ez,.slice (some ⟨z,0,none⟩) 1 1] (0,0) _ (by rfl) VY.out Tryz.underlying49 rfl (by kernel_rfl)) rfl ?_;rw [← HQ.out,qW.out,← TS.out];have zz:=xq.out;have hQQ:=HQQ.out;have NK:=yO.out;have zq:=dP.out.size;have zb:=Cc.out.size;have z5:=mK.out.size;have z3:=HZ3.out;have yA:wP.heap[z]?=_:=(FN.out.2.block z (af.1 Bg.out).1 (by omega)).trans Bg.out;refine dO hd (dP.out.trans ((lq.out.trans (Pv.out.mono lq.out.size)).mono dP.out.size)) FN.out.1 (rP fun x=>[x]).1 (rP fun x=>[x]).2 ?_ ⟨ae _,ae _⟩;rw [← sO.out]
    refine Ap (K:=jL) HV.out (fun g hg hl=>?_) yA (fun g hg=>?_) (by omega) sH.out
    ·exact (FN.out.2.block g (by omega) (by omega)).trans ((Cc.out.block g (by omega)).trans (HV6.out g hl))
    ·omega
  ·obtain rfl:j=4:=by omega
   obtain ⟨m0,o0,ho,hOo,hfu⟩:∃ m0 o,start b i (operand L m0 i)=o∧O=o.next (fun a j=>tails L m0 fr a j)∧(o.aA=false→m0<n∧8*(L.length - o.at)+1≤m0)∧(n=m0+1∨m0=0)∧(b=false→8*(L.length - i)+1≤m0):=by
    cases b
    ·have h1:=HN.out rfl
     obtain ⟨m,rfl⟩:∃ m,n=m+1:=⟨n - 1,by omega⟩;refine ⟨m,_,rfl,by rw [← HO.out,← Aq.out,aW];exact Ps (fun k hk=>by simpa using HA.out k hk),?_,.inl rfl,fun _=>by omega⟩;intro hb;have:=((iK m).operand i hi).gt hb;have:=((iK m).operand i hi).le;rw [aW]
     omega
    ·exact ⟨0,.bad i,rfl,HO.out.symm,(fun h=>by cases h),.inr rfl,(fun h=>by cases h)⟩
   have hfw:oZ L i b o0:=by rw [← ho];exact .begun hi ((iK m0).operand i hi).toFw
   have hgt:o0.aA=false→i<o0.at:=by
    rw [← ho]
    cases b
    ·exact ((iK m0).operand i hi).gt
    ·intro h;cases h
   have c2:=HOP.out m0 hfu.2.1 i b wr HR.out Bh.out hi hfu.2.2;rw [ho] at c2;have qW:=hid hOo;have HF:=hid hfw;have HGT:=hid hgt;have HFU:=hid hfu.1;clear hfu hOo hfw hgt ho
   go_wp2_with fail
   refine c2.mono ?_;rintro x w4 ⟨v,rfl,⟨k,t,f,e,sl,sn,sc,rfl,hnn,hv⟩,hw4⟩;have HV:=hid hv;have uW:=hid hw4;clear c2 hv hw4
   go_upto_region 11 with fail
   obtain ⟨q,hq⟩:∃ q,w4.heap.size=q:=⟨_,rfl⟩;obtain ⟨W5,Hm⟩:∃ W,w4.alloc (.cells #[.string k,.string t,.int .i64 f,.int .i64 e,.slice sl sn sc] 49)=W:=⟨_,rfl⟩
   have hb5:Below w4.heap.size w4 W5:=by rw [← Hm];exact (aj _ w4).alloc (ae _) _
   have xO:W5.heap[q]?=some (.cells #[.string k,.string t,.int .i64 f,.int .i64 e,.slice sl sn sc] 49 (0,0)):=by rw [← Hm,← hq];exact aG w4 _
   rw [Hm,hq];have JX:=lq.out.size;have z3r:=HM.out.size;have zr4:=uW.out.2.size;have z3:=HZ3.out;have z1:=HZ1.out
   have ow:w.heap.size<q∧W1.heap.size≤q∧w.heap.size<wr.heap.size:=by omega
   have Y7:Mv W1.heap.size d W1 wr:=lq.out.trans (HM.out.mono lq.out.size)
   have hin:uJ d L lv i fr O w W1 n q true o0 k t f e sl sn sc m0 W5 :=
    ⟨qW.out,uW.out.1.below hb5,(Y7.trans (uW.out.2.mono Y7.size)).trans ((Mv.of_below hb5).mono (by omega)),xO,
     ⟨k,t,f,e,sl,sn,sc,rfl,hnn,fun p j hp=>⟨(HV.out p j hp).1,(aT.live _ _ (HV.out p j hp).2).later (Mv.still (B:=w4.heap.size) (d:=d) (Mv.of_below hb5) (ae _) (fun g hg=>by omega)) (fun g hg=>by omega)⟩⟩,HF.out.le,HGT.out,HFU.out⟩
   have fG:=hid hin;have P4:=hid ow;clear hin Hm hb5 xO ow Y7 hnn HV uW HFU HGT HF qW hq JX z3r zr4 z3 z1 HA HR HM ab9 Bh
   go_wp2_with fail
   go_loopw [9] (fun mv X=>∃ (more:Bool) (o:Out Pt) (k t:ByteArray) (f e:Int) (sl:Option Addr) (sn sc m:Nat),mv=.bool more∧Hid (uJ d L lv i fr O w W1 n q more o k t f e sl sn sc m X)) (fun mv X=>(L.length+1 - atR d X)*2+(match mv with|.bool true=>1|_=>0))
   case atStart=>exact ⟨true,o0,k,t,f,e,sl,sn,sc,m0,rfl,fG⟩
   case round =>
    clear fG;obtain ⟨more,o,k,t,f,e,sl,sn,sc,m,rfl,fG⟩:=hrel
    cases more
    focus
     have hox:O=o:=fG.out.out
    rotate_left
    focus
     have hat:=fG.out.rd.at;have c2:=fG.out.rd.c2
     cases fw:o.aA
     ·rw [fw] at c2
      obtain ⟨oa,hoa⟩:∃ u,o.at=u:=⟨_,rfl⟩;have hop:=jG fw;obtain ⟨pa,hpa⟩:∃ u,o.pt=u:=⟨_,rfl⟩;rw [hpa,hoa] at hop;subst hop;have hfu:=fG.out.fuel rfl;have hgt:i<oa:=fG.out.gt rfl;have hle:oa≤L.length:=fG.out.le;have hfu2:8*(L.length - oa)+1≤m:=hfu.2;obtain ⟨m',rfl⟩:∃ m',m=m'+1:=⟨m - 1,by omega⟩
      have hmn:m'<n:=by omega
      have hout:O=tails L (m'+1) fr pa oa:=fG.out.out;rw [DU] at hout;have yc:=hid hout;have hTX:=HT1.out.mv fG.out.mv (ae _);have LK:=hid hTX;have HRX:Hid (Rd d lv oa false wr):=hid fG.out.rd;have HAT:Hid (atR d wr=oa):=hid hat;have c3:=fE d L lv oa false [46] wr HRX.out hTX (by omega);rw [show aU [46]=⟨#[46]⟩ from rfl] at c3
      have qz:q≠d:=by have:=P4.out;omega
      obtain ⟨R1,lL⟩:∃ R1,(!false&&bG L [46] oa)=R1:=⟨_,rfl⟩;rw [lL] at c3;have HA1:Hid (bG L [46] oa=R1):=hid lL;clear lL hout hTX hfu hat fw hpa hoa
      cases R1
      ·have HNo:Hid (∀ X,kz d lv oa false wr X→True):=hid (fun _ _=>trivial)
       go_wp2_with fail
       refine c3.mono ?_;rintro x w5 ⟨rfl,jA⟩;have jA:kz d lv oa false wr w5:=jA;have c4:=fE d L lv oa false [91] w5 jA.1 (LK.out.mv jA.2 (ae _)) (by omega);rw [show aU [91]=⟨#[91]⟩ from rfl] at c4;have qA:=hid jA;obtain ⟨R2,hR2⟩:∃ R2,(!false&&bG L [91] oa)=R2:=⟨_,rfl⟩;rw [hR2] at c4;have HA2:Hid (bG L [91] oa=R2):=hid hR2;clear c3 jA hR2 c2 HNo
       cases R2
       ·go_wp2_with fail
        refine c4.mono ?_;rintro x w6 ⟨rfl,xe⟩;have xe:kz d lv oa false w5 w6:=xe
        have oC:=hid (fG.out.moved (more':=false) (qA.out.2.trans (xe.2.mono qA.out.2.size)) xe.1 (by omega) qz (by
         rw [yc.out,ai (by rw [HA1.out];decide),ai (by rw [HA2.out];decide)];rfl))
        have sO:Hid (atR d w6=oa):=hid xe.1.at;clear c4 xe
        go_wp2_with fail
        go_roundw
        case rel=>exact ⟨false,_,k,t,f,e,sl,sn,sc,_,rfl,oC⟩
        case measure =>
         rw [sO.out,HAT.out]
         show (L.length+1 - oa)*2+0<(L.length+1 - oa)*2+1
         omega
       ·have hil:oa<L.length:=bR HA2.out
        obtain ⟨ob,fw⟩:∃ u,expr L m' 0 (oa+1)=u:=⟨_,rfl⟩;have Ev:Hid (vW L (oa+1) ob):=hid (by rw [← fw];exact (iK m').expr (oa+1) (by omega) 0);obtain ⟨om,mE⟩:∃ u,start ob.aA ob.at (bI L [93] ob.at)=u:=⟨_,rfl⟩
        have Hg:Hid (ob.at≤om.at∧om.at≤L.length):=hid (by
         rw [← mE]
         cases hb:ob.aA
         ·exact ⟨(bU _ Ev.out.le).ge,(bU _ Ev.out.le).le⟩
         ·exact ⟨ae _,Ev.out.le⟩)
        have HSO:Hid (om.aA=false→ob.aA=false):=hid (by
         rw [← mE]
         cases hb:ob.aA
         ·exact fun _=>rfl
         ·exact fun h=>by cases h)
        have qW:Hid (O=(om.next fun _ j=>part L lD [] fr [pa,ob.pt] j).next fun a j=>tails L m' fr a j):=hid (by
         rw [yc.out,ai (by rw [HA1.out];decide),ay HA2.out,qV,fw,← mE]
         cases ob <;> rfl)
        go_wp2_with fail
        refine c4.mono ?_;rintro x w6 ⟨rfl,xe⟩;have xe:kz d lv (oa+1) false w5 w6:=xe;have nW:=hid (qA.out.2.trans (xe.2.mono qA.out.2.size));have c5:=HI.out m' hmn 0 (oa+1) false w6 xe.1 (LK.out.mv nW.out (ae _)) (by omega) (fun _=>by omega);rw [aW,fw] at c5;have HOM:=hid mE;clear c4 xe fw mE
        go_wp2_with fail
        refine c5.mono ?_;rintro x w7 ⟨v,rfl,⟨kb,tb,fb,eb,ab,nb,cb,rfl,hnb,hvb⟩,hw7⟩;have Hw:=hid hvb;have sD:=hid hw7;clear c5 hvb hw7
        go_upto_region 20 with fail
        obtain ⟨qb,Av⟩:∃ q,w7.heap.size=q:=⟨_,rfl⟩;obtain ⟨W8,LP⟩:∃ W,w7.alloc (.cells #[.string kb,.string tb,.int .i64 fb,.int .i64 eb,.slice ab nb cb] 49)=W:=⟨_,rfl⟩
        have qJ:Below w7.heap.size w7 W8:=by rw [← LP];exact (aj _ w7).alloc (ae _) _
        have VZ:W8.heap[qb]?=some (.cells #[.string kb,.string tb,.int .i64 fb,.int .i64 eb,.slice ab nb cb] 49 (0,0)):=by rw [← LP,← Av];exact aG w7 _
        rw [LP,Av];have lF:=hid ((nW.out.trans (sD.out.2.mono nW.out.size)).trans ((Mv.of_below (d:=d) qJ).mono (aJ nW.out.size sD.out.2.size)));have tY:=hid (sD.out.1.below qJ);have HK8:=hid VZ;have WX:=hid qJ;have V3:Hid (w6.heap.size≤w7.heap.size∧qb=w7.heap.size∧qb<W8.heap.size∧wr.heap.size≤w6.heap.size):=hid ⟨sD.out.2.size,Av.symm,(af.1 VZ).1,nW.out.size⟩;clear LP Av qJ VZ;have c6:=jf d L lv ob.at ob.aA [93] W8 tY.out (LK.out.mv lF.out (ae _)) (by have:=Ev.out.le;omega);rw [HOM.out,show aU [93]=⟨#[93]⟩ from rfl] at c6
        go_wp2_with fail
        refine c6.mono ?_;rintro x w9 ⟨rfl,dV⟩;have kF:=hid (lF.out.trans (dV.2.mono lF.out.size));have hq9:=(kF.out.block q (af.1 fG.out.box).1 qz).trans fG.out.box
        have hdq:d≠qb:=by have:=V3.out;have:=HRX.out.lt;omega
        have nV:=(dV.2.block qb V3.out.2.2.1 hdq.symm).trans HK8.out;obtain ⟨⟨l0,l1,l2,l3,l4⟩,-⟩:=aF hq9;obtain ⟨⟨b0,b1,b2,b3,b4⟩,-⟩:=aF nV;obtain ⟨z,hz⟩:∃ z,w9.heap.size=z:=⟨_,rfl⟩;obtain ⟨Z,hZ⟩:∃ Z,w9.alloc (.cells #[.string k,.string t,.int .i64 f,.int .i64 e,.slice sl sn sc,.string kb,.string tb,.int .i64 fb,.int .i64 eb,.slice ab nb cb] 49)=Z:=⟨_,rfl⟩
        have hbz:Below w9.heap.size w9 Z:=by rw [← hZ];exact (aj _ w9).alloc (ae _) _
        have hrz:Z.heap[w9.heap.size]?=some (.cells #[.string k,.string t,.int .i64 f,.int .i64 e,.slice sl sn sc,.string kb,.string tb,.int .i64 fb,.int .i64 eb,.slice ab nb cb] 49 (0,0)):=by rw [← hZ];exact aG w9 _
        have c7:=eZ d L lv om.at om.aA ⟨#[105,110,100,101,120]⟩ ⟨#[]⟩ fr (some ⟨z,0,none⟩) 2 2 Z (dV.1.below hbz) (LK.out.mv (kF.out.trans ((Mv.of_below hbz).mono kF.out.size)) (ae _)) Hg.out.2 hL;obtain ⟨ez,jC⟩:∃ u,jY L om.at=u:=⟨_,rfl⟩;rw [jC] at c7;have sH:=hid jC;have qP:=hid hq9;have Cc:=hid hbz;have Bg:=hid hrz;have hzq:q<w9.heap.size∧d<w9.heap.size∧W8.heap.size≤w9.heap.size:=⟨(af.1 hq9).1,dV.1.lt,dV.2.size⟩;have xz:=hid hzq;have Nk:=hid dV;rw [← hz] at c7;clear c6 dV hq9 nV jC hbz hrz hz hzq
        go_wp2_with fail
        try rw [hZ]
        refine c7.mono ?_;rintro x wP ⟨rfl,wD⟩;have TX:wP.heap[q]?=_:=(wD.2.block q (by have:=Cc.out.size;have:=xz.out;omega) qz).trans ((Cc.out.block q xz.out.1).trans qP.out);obtain ⟨⟨u0,u1,u2,u3,u4⟩,uz⟩:=aF TX;have v0:=uz 0;have v1:=uz 1;have v2:=uz 2;have v3:=uz 3;have v4:=uz 4;obtain ⟨WF,DV,Aw⟩:∃ WF,(((((wP.setCell ⟨q,0,none⟩ (.string ⟨#[105,110,100,101,120]⟩)).setCell ⟨q,1,none⟩ (.string ⟨#[]⟩)).setCell ⟨q,2,none⟩ (.int .i64 fr)).setCell ⟨q,3,none⟩ (.int .i64 ez)).setCell ⟨q,4,none⟩ (.slice (some ⟨w9.heap.size,0,none⟩) 2 2))=WF∧Boxed d lv om.at om.aA q _ _ w9 WF:=⟨_,rfl,boxed Cc.out Bg.out wD xz.out.1 xz.out.2.1 qz qP.out⟩;have hout2:=DW (o:=om) (L:=L) (K:=lD) (T:=[]) (F:=fr) [pa,ob.pt]
        have hpv:qh WF (fun g=>w.heap.size<g∧g≠q) (om.next fun _ j=>part L lD [] fr [pa,ob.pt] j) (.agg #[.string ⟨#[105,110,100,101,120]⟩,.string ⟨#[]⟩,.int .i64 fr,.int .i64 ez,.slice (some ⟨w9.heap.size,0,none⟩) 2 2]):=by
         refine kN Aw.row ⟨by have:=P4.out;have:=xz.out;omega,by have:=xz.out;omega⟩ (fun p j fQ=>?_) (by omega) (ae _);have jC:=sH.out;have hso:=HSO.out
         cases om with
         | bad j'=>cases fQ
         | ok s j' =>
          simp only [Out.next,part,Out.ok.injEq] at fQ;obtain ⟨rfl,rfl⟩:=fQ;refine ⟨lD,[],[pa,ob.pt],by rw [← jC];rfl,rfl,rfl,rfl,?_⟩;obtain ⟨k',t',f',e',a',n',c',h1,h2,h3⟩:=fG.out.part;have h4:=congrArg (fun v:Value=>match v with|.agg xs=>xs.toList|_=>[]) h1
          simp at h4
          obtain ⟨rfl,rfl,rfl,rfl,rfl,rfl,rfl⟩:=h4;obtain ⟨g1,g2⟩:=h3 pa oa rfl;obtain ⟨e1,e2⟩:=Hw.out ob.pt ob.at (jG (hso rfl));have P5:=WX.out.size;have hq9:=P4.out;have hqx:=(af.1 fG.out.box).1;have w1:=g2.later (W':=WF) (R':=fun g=>w.heap.size<g∧g≠q) (fun g' hg' hl=>(Aw.far g' (by have:=kF.out.size;omega) hg'.2 (by omega)).trans (kF.out.block g' hl (by omega))) (fun g' hg'=>hg');have w2:=(aT.live _ _ e2).later (W':=WF) (R':=fun g=>w.heap.size<g∧g≠q) (fun g' hg' hl=>(Aw.far g' (by have:=xz.out;have:=V3.out;omega) (by have:=V3.out;omega) (by have:=V3.out;have:=HRX.out.lt;omega)).trans ((Nk.out.2.block g' (by have:=V3.out;omega) (by have:=V3.out;have:=HRX.out.lt;omega)).trans (WX.out.block g' hl))) (fun g' hg'=>⟨by have:=V3.out;omega,by have:=V3.out;omega⟩)
          show aO WF _ _ (([.string k,.string t,.int .i64 f,.int .i64 e,.slice sl sn sc]:List Value)++([.string kb,.string tb,.int .i64 fb,.int .i64 eb,.slice ab nb cb]++[]))
          rw [jF g1,jF e1]
          exact ⟨_,_,rfl,w1,_,_,rfl,w2,rfl⟩
        have hmv:Mv W1.heap.size d W1 WF:=fG.out.mv.trans ((kF.out.mono fG.out.mv.size).trans (Aw.mv _ P4.out.2.1));have oC:Hid (uJ d L lv i fr O w W1 n q true (om.next fun _ j=>part L lD [] fr [pa,ob.pt] j) ⟨#[105,110,100,101,120]⟩ ⟨#[]⟩ fr ez (some ⟨w9.heap.size,0,none⟩) 2 2 m' WF):=hid ⟨by rw [qW.out];rfl,by rw [hout2.1,hout2.2];exact Aw.rd,hmv,Aw.box,hpv,by rw [hout2.1];exact Hg.out.2,fun _=>by rw [hout2.1];have:=Hg.out;have:=Ev.out.ge;omega,fun _=>by rw [hout2.1];have:=Hg.out;have:=Ev.out.ge;omega⟩;have sO:Hid (atR d WF=om.at):=hid Aw.rd.at;clear c7 wD TX uz Aw hout2 hpv hmv l0 l1 l2 l3 l4 b0 b1 b2 b3 b4
        go_wp2_with fail
        go_roundw
        case rel=>exact ⟨true,_,_,_,_,_,_,_,_,m',rfl,oC⟩
        case measure =>
         rw [sO.out,HAT.out];have:=Hg.out;have:=Ev.out.ge
         show (L.length+1 - om.at)*2+1<(L.length+1 - oa)*2+1
         omega
      ·have hil:oa<L.length:=bR HA1.out
       obtain ⟨nm,hnm⟩:∃ u,gK L (oa+1)=u:=⟨_,rfl⟩;have Hg:Hid (vW L (oa+1) nm):=hid (by rw [← hnm];exact jw (by omega))
       have qW:Hid (O=(nm.next fun s j=>part L jh s fr [pa] j).next fun a j=>tails L m' fr a j):=hid (by
        rw [yc.out,ay HA1.out,qV,hnm];rfl)
       go_wp2_with fail
       refine c3.mono ?_;rintro x w5 ⟨rfl,jA⟩;have jA:kz d lv (oa+1) false wr w5:=jA;have c4:=nH d L lv (oa+1) false w5 jA.1 (LK.out.mv jA.2 (ae _)) (by omega);rw [aW,hnm] at c4;obtain ⟨sv,hsv⟩:∃ u,xy nm=u:=⟨_,rfl⟩;rw [hsv] at c4;have qA:=hid jA;have yO:=hid hsv;clear c3 jA c2 hnm hsv
       go_wp2_with fail
       refine c4.mono ?_;rintro x w6 ⟨rfl,xe⟩;have nW:=hid (qA.out.2.trans (xe.2.mono qA.out.2.size));have hb6:=(nW.out.block q (af.1 fG.out.box).1 qz).trans fG.out.box;obtain ⟨⟨l0,l1,l2,l3,l4⟩,-⟩:=aF hb6;obtain ⟨z,hz⟩:∃ z,w6.heap.size=z:=⟨_,rfl⟩;obtain ⟨Z,hZ⟩:∃ Z,w6.alloc (.cells #[.string k,.string t,.int .i64 f,.int .i64 e,.slice sl sn sc] 49)=Z:=⟨_,rfl⟩
       have hbz:Below w6.heap.size w6 Z:=by rw [← hZ];exact (aj _ w6).alloc (ae _) _
       have hrz:Z.heap[w6.heap.size]?=some (.cells #[.string k,.string t,.int .i64 f,.int .i64 e,.slice sl sn sc] 49 (0,0)):=by rw [← hZ];exact aG w6 _
       have c5:=eZ d L lv nm.at nm.aA ⟨#[102,105,101,108,100]⟩ sv fr (some ⟨z,0,none⟩) 1 1 Z (xe.1.below hbz) (LK.out.mv (nW.out.trans ((Mv.of_below hbz).mono nW.out.size)) (ae _)) Hg.out.le hL;obtain ⟨ez,jC⟩:∃ u,jY L nm.at=u:=⟨_,rfl⟩;rw [jC] at c5;have sH:=hid jC;have qP:=hid hb6;have Cc:=hid hbz;have Bg:=hid hrz;have xq:=hid hz;have hzq:q<w6.heap.size∧d<w6.heap.size:=⟨(af.1 hb6).1,xe.1.lt⟩;have xz:=hid hzq;rw [← hz] at c5;clear c4 xe hb6 jC hbz hrz hz hzq
       go_wp2_with fail
       try rw [hZ]
       refine c5.mono ?_;rintro x wP ⟨rfl,wD⟩;have TX:wP.heap[q]?=_:=(wD.2.block q (by have:=Cc.out.size;have:=xz.out;omega) qz).trans ((Cc.out.block q xz.out.1).trans qP.out);obtain ⟨⟨u0,u1,u2,u3,u4⟩,uz⟩:=aF TX;have v0:=uz 0;have v1:=uz 1;have v2:=uz 2;have v3:=uz 3;have v4:=uz 4;obtain ⟨WF,DV,Aw⟩:∃ WF,(((((wP.setCell ⟨q,0,none⟩ (.string ⟨#[102,105,101,108,100]⟩)).setCell ⟨q,1,none⟩ (.string sv)).setCell ⟨q,2,none⟩ (.int .i64 fr)).setCell ⟨q,3,none⟩ (.int .i64 ez)).setCell ⟨q,4,none⟩ (.slice (some ⟨w6.heap.size,0,none⟩) 1 1))=WF∧Boxed d lv nm.at nm.aA q _ _ w6 WF:=⟨_,rfl,boxed Cc.out Bg.out wD xz.out.1 xz.out.2 qz qP.out⟩;have hout2:=VX (o:=nm) (L:=L) (K:=jh) (F:=fr) [pa]
       have hpv:qh WF (fun g=>w.heap.size<g∧g≠q) (nm.next fun s j=>part L jh s fr [pa] j) (.agg #[.string ⟨#[102,105,101,108,100]⟩,.string sv,.int .i64 fr,.int .i64 ez,.slice (some ⟨w6.heap.size,0,none⟩) 1 1]):=by
        refine kN Aw.row ⟨by have:=P4.out;have:=xz.out;omega,by have:=xz.out;omega⟩ (fun p j fQ=>?_) (by omega) (ae _);have jC:=sH.out;have hsv:=yO.out
        cases nm with
        | bad j'=>cases fQ
        | ok s j' =>
         simp only [Out.next,part,Out.ok.injEq] at fQ;obtain ⟨rfl,rfl⟩:=fQ;refine ⟨jh,s,[pa],by rw [← jC];rfl,rfl,hsv,rfl,?_⟩;obtain ⟨k',t',f',e',a',n',c',h1,h2,h3⟩:=fG.out.part;have h4:=congrArg (fun v:Value=>match v with|.agg xs=>xs.toList|_=>[]) h1
         simp at h4
         obtain ⟨rfl,rfl,rfl,rfl,rfl,rfl,rfl⟩:=h4;obtain ⟨g1,g2⟩:=h3 pa oa rfl;have w1:=g2.later (W':=WF) (R':=fun g=>w.heap.size<g∧g≠q) (fun g' hg' hl=>(Aw.far g' (by have:=nW.out.size;omega) hg'.2 (by omega)).trans (nW.out.block g' hl (by omega))) (fun g' hg'=>hg')
         show aO WF _ _ (([.string k,.string t,.int .i64 f,.int .i64 e,.slice sl sn sc]:List Value)++[])
         rw [jF g1]
         exact ⟨_,_,rfl,w1,rfl⟩
       have hmv:Mv W1.heap.size d W1 WF:=fG.out.mv.trans ((nW.out.mono fG.out.mv.size).trans (Aw.mv _ P4.out.2.1));have oC:Hid (uJ d L lv i fr O w W1 n q true (nm.next fun s j=>part L jh s fr [pa] j) ⟨#[102,105,101,108,100]⟩ sv fr ez (some ⟨w6.heap.size,0,none⟩) 1 1 m' WF):=hid ⟨by rw [qW.out];rfl,by rw [hout2.1,hout2.2];exact Aw.rd,hmv,Aw.box,hpv,by rw [hout2.1];exact Hg.out.le,fun _=>by rw [hout2.1];have:=Hg.out.ge;omega,fun _=>by rw [hout2.1];have:=Hg.out.ge;omega⟩;have sO:Hid (atR d WF=nm.at):=hid Aw.rd.at;clear c5 wD TX uz Aw hout2 hpv hmv l0 l1 l2 l3 l4
       go_wp2_with fail
       go_roundw
       case rel=>exact ⟨true,_,_,_,_,_,_,_,_,m',rfl,oC⟩
       case measure =>
        rw [sO.out,HAT.out];have:=Hg.out.ge
        show (L.length+1 - nm.at)*2+1<(L.length+1 - oa)*2+1
        omega
     rw [fw] at c2
     have hox:O=o:=by
      rw [fG.out.out,ay rfl]
      cases o with
      | ok a j=>cases fw
      | bad j=>rfl
    rotate_left
    all_goals
     have jd:wr.heap[w.heap.size]?=_:=(fG.out.mv.block w.heap.size HZ1.out (by omega)).trans jD.out;obtain ⟨⟨p0,p1,p2,p3,p4⟩,-⟩:=aF fG.out.box;obtain ⟨⟨r0,r1,r2,r3,r4⟩,gz⟩:=aF jd;have g0:=gz 0;have g1:=gz 1;have g2:=gz 2;have g3:=gz 3;have g4:=gz 4;have pQ:=hid jd;have HOX:=hid hox;clear gz jd hox
     go_wp2_with fail
     have hp:=dS (a':=.string k) (b':=.string t) (c':=.int .i64 f) (d':=.int .i64 e) (e':=.slice sl sn sc) pQ.out;refine aB (v:=.agg #[.string k,.string t,.int .i64 f,.int .i64 e,.slice sl sn sc]) (aQ rfl _ _ w.heap.size 49 #[.string k,.string t,.int .i64 f,.int .i64 e,.slice sl sn sc] (0,0) _ (by rfl) hp Tryz.underlying49 rfl (by kernel_rfl)) rfl ?_;rw [← HQ.out,HOX.out]
     exact dO hd (dP.out.trans (fG.out.mv.mono dP.out.size)) fG.out.rd rfl rfl (fG.out.part.later (fun g _ _=>rfl) (fun g hg=>hg.1)) ⟨ae _,ae _⟩
theorem Ay:(Tryz.prog.info? 49).map (fun i=>(i.zero,i.size,i.bytes))=some (some (.agg #[.string ⟨#[]⟩,.string ⟨#[]⟩,.int .i64 0,.int .i64 0,.slice none 0 0]),5,72):=by kernel_rfl
theorem nQ {o:Option TypeInfo} {z:Option Value} {a b:Nat} (h:o.map (fun i=>(i.zero,i.size,i.bytes))=some (z,a,b)):∃ i,o=some i∧i.zero=z∧i.size=a∧i.bytes=b:=by
 cases o with
 | none=>cases h
 | some i =>
  simp only [Option.map_some,bW,Prod.mk.injEq] at h
  exact ⟨i,rfl,h⟩
def uP:Nat→List Value→Prop
 | 0,xs=>xs=[]
 | n+1,xs=>∃ ys k t f e a m c,uP n ys∧xs=ys++[.string k,.string t,.int .i64 f,.int .i64 e,.slice a m c]
theorem FO {k t:ByteArray} {f e:Int} {a:Option Addr} {m c:Nat}:uP 1 [.string k,.string t,.int .i64 f,.int .i64 e,.slice a m c]:=⟨[],k,t,f,e,a,m,c,rfl,rfl⟩
theorem Pw {k t k' t':ByteArray} {f e f' e':Int} {a a':Option Addr} {m c m' c':Nat}:uP 2 [.string k,.string t,.int .i64 f,.int .i64 e,.slice a m c,.string k',.string t',.int .i64 f',.int .i64 e',.slice a' m' c']:=⟨_,k',t',f',e',a',m',c',FO,rfl⟩
theorem uP.length:∀ {n:Nat} {xs:List Value},uP n xs→xs.length=n*5
 | 0,_,h=>by rw [show _=[] from h];rfl
 | n+1,xs,h=>by
  obtain ⟨ys,k,t,f,e,a,m,c,h1,rfl⟩:=h;have:=h1.length
  simp [this];omega
theorem uP.first:∀ {n:Nat} {xs:List Value},uP (n+1) xs→∃ f,xs[2]?=some (.int .i64 f)
 | 0,_,h=>by
  obtain ⟨ys,k,t,f,e,a,m,c,h1,rfl⟩:=h;rw [show ys=[] from h1]
  exact ⟨f,rfl⟩
 | n+1,_,h=>by
  obtain ⟨ys,k,t,f,e,a,m,c,h1,rfl⟩:=h;obtain ⟨g,hg⟩:=h1.first;refine ⟨g,?_⟩;rw [bn (by have:=h1.length;omega)]
  exact hg
theorem uP.last {n:Nat} {xs:List Value} (h:uP (n+1) xs):∃ e,xs[n*5+3]?=some (.int .i64 e):=by
 obtain ⟨ys,k,t,f,e,a,m,c,h1,rfl⟩:=h;refine ⟨e,?_⟩;rw [aK (by have:=h1.length;omega),h1.length,Nat.add_sub_cancel_left]
 rfl
structure dY (B:Nat) (o:Out (List Pt)) (v:Value) (n:Nat) (xs:List Value) (W:World):Prop where
 own:W.ownsRow B 49 5 v n xs
 DX:uP n xs
 parts:∀ l j,o=.ok l j→l.length=n∧aO W (fun g=>B≤g∧g<W.heap.size∧v.ownBlock≠some g) l xs
theorem dY.nil (B:Nat) (j:Nat) (W:World):dY B (.ok [] j) (.slice none 0 0) 0 [] W :=
 ⟨dD _ _ _ _,rfl,fun l j h=>by cases h;exact ⟨rfl,rfl⟩⟩
theorem dY.out {B:Nat} {o o':Out (List Pt)} {v:Value} {n:Nat} {xs:List Value} {W:World} (h:dY B o v n xs W) (ho:∀ l j,o'=.ok l j→∃ j',o=.ok l j'):dY B o' v n xs W :=
 ⟨h.own,h.DX,fun l j hl=>by obtain ⟨j',h'⟩:=ho l j hl;exact h.parts l j' h'⟩
theorem dY.mv {B d:Nat} {o:Out (List Pt)} {v:Value} {n:Nat} {xs:List Value} {W W':World} (h:dY B o v n xs W) (hm:Mv W.heap.size d W W') (hd:d<B):dY B o v n xs W':=by
 refine ⟨⟨h.own.1,?_⟩,h.DX,fun l j hl=>⟨(h.parts l j hl).1,aO.later (fun g hg hgl=>hm.block g hgl (by omega)) (fun g hg=>⟨hg.1,aD hg.2.1 hm.size,hg.2.2⟩) _ _ (h.parts l j hl).2⟩⟩
 rcases h.own.2 with h1|⟨g,cap,cur,rfl,h2,h3,h4⟩
 ·exact .inl h1
 ·exact .inr ⟨g,cap,cur,rfl,h2,(hm.block g (af.1 h3).1 (by omega)).trans h3,h4⟩
theorem dY.form {B:Nat} {o:Out (List Pt)} {v:Value} {n:Nat} {xs:List Value} {W:World} (h:dY B o v n xs W):∃ a c,v=.slice a n c:=by
 rcases h.own.2 with ⟨h1,h2⟩|⟨g,cap,cur,h1,_⟩
 ·exact ⟨none,0,by rw [h1,h2]⟩
 ·exact ⟨_,cap,h1⟩
theorem dY.snoc {B C:Nat} {o o':Out (List Pt)} {ob:Out Pt} {v v':Value} {n m c:Nat} {xs:List Value} {k t:ByteArray} {f e:Int} {a:Option Addr} {W5 W6 X Y:World} (h:dY B o v n xs X)
  (h5:dY B o v n xs W5) (hC:W5.heap.size≤C) (hB:B≤C)
  (hv:∀ p j,ob=.ok p j→(.agg #[.string k,.string t,.int .i64 f,.int .i64 e,.slice a m c]:Value)=.agg (five p (.slice a m c)).toArray∧aT W6 (fun g=>C≤g) p (.slice a m c)) (hX:Below W6.heap.size W6 X)
  (bY:Y.ownsRow B 49 5 v' (n+1) (xs++[.string k,.string t,.int .i64 f,.int .i64 e,.slice a m c])) (aP:X.grownBy Y v.ownBlock) (hrow:v'.ownBlock=v.ownBlock∨v'.ownBlock=some X.heap.size)
  (ho:∀ l j,o'=.ok l j→∃ l0 j0 p jp,o=.ok l0 j0∧ob=.ok p jp∧l=l0++[p]):dY B o' v' (n+1) (xs++[.string k,.string t,.int .i64 f,.int .i64 e,.slice a m c]) Y:=by
 refine ⟨bY,⟨xs,k,t,f,e,a,m,c,h.DX,rfl⟩,fun l j hl=>?_⟩;obtain ⟨l0,j0,p,jp,h1,h2,rfl⟩:=ho l j hl;obtain ⟨e1,e2⟩:=h.parts l0 j0 h1;obtain ⟨e3,e4⟩:=hv p jp h2;refine ⟨by simp [e1],?_⟩;rw [jF e3]
 have hne:∀ g,g<X.heap.size→v.ownBlock≠some g→v'.ownBlock≠some g:=fun g hg hn=>by
  rcases hrow with hr|hr
  ·rw [hr];exact hn
  ·rw [hr];intro h';injection h' with h';omega
 refine aO.snoc (aO.later (fun g hg hgl=>aP.block g hgl (fun h'=>hg.2.2 h'.symm)) (fun g hg=>⟨hg.1,aD hg.2.1 aP.size,hne g hg.2.1 hg.2.2⟩) _ _ e2) ?_
 have hvn:∀ g,C≤g→v.ownBlock≠some g:=fun g hg h'=>by have:=(h5.own.lt g h').2;omega
 have hxs:=hX.size;refine ((aT.live _ _ e4).later (W':=X) (R':=fun g=>C≤g∧g<X.heap.size) (fun g hg hgl=>hX.block g hgl) (fun g hg=>⟨hg.1,by omega⟩)).later (fun g hg hgl=>aP.block g hgl (fun h'=>hvn g hg.1 h'.symm)) (fun g hg=>⟨by omega,aD hg.2 aP.size,hne g hg.2 (hvn g hg.1)⟩)
theorem nI {B:Nat} {o:Out (List Pt)} {v:Value} {n:Nat} {xs:List Value} {W:World} {R:Nat→Prop} {O:Out Pt} {kv tv:ByteArray} {F E:Int} (h:dY B o v n xs W) (hR:∀ g,B≤g→R g) (hn:n≤1000000)
  (hO:∀ p j,O=.ok p j→∃ K T ks j',p=.mk K T F E ks∧aU K=kv∧aU T=tv∧o=.ok ks j') :
  qh W R O (.agg #[.string kv,.string tv,.int .i64 F,.int .i64 E,v]):=by
 obtain ⟨a,c,hv⟩:=h.form;subst hv;refine ⟨_,_,_,_,_,_,_,rfl,hn,?_⟩;intro p j fQ;obtain ⟨K,T,ks,j',rfl,rfl,rfl,h5⟩:=hO p j fQ;obtain ⟨e1,e2⟩:=h.parts ks j' h5;refine ⟨rfl,?_⟩
 rcases h.own.2 with ⟨h1,h2⟩|⟨g,cap,cur,h1,h2,h3,h4,_,_,h6⟩
 ·cases h1
  have hk:ks=[]:=eG (by omega);subst hk
  exact ⟨_,_,by rw [dM,← h2],by omega,.inl rfl⟩
 ·cases h1
  refine ⟨_,_,by rw [e1],by omega,.inr ⟨g,0,xs,rfl,hR g h2,fun j u hj=>?_,aO.later (fun _ _ _=>rfl) (fun g hg=>hR g hg.1) _ _ e2⟩⟩
  unfold World.cell?
  rw [h3];rw [← h6,List.getElem?_take] at hj
  split at hj
  ·simpa using hj
  ·cases hj
theorem qm {k t:ByteArray} {f e:Int} {a:Option Addr} {n c:Nat}:∀ u∈([.string k,.string t,.int .i64 f,.int .i64 e,.slice a n c]:List Value),u.oneCell'=true:=by
 intro u hu;simp only [bA,ek,or_false] at hu
 rcases hu with rfl|rfl|rfl|rfl|rfl <;> rfl
theorem qo {W:World} {g:Nat} {cs:Array Value} {t:TypeId} (h:W.heap[g]?=some (.cells cs t (0,0))):∀ j u,cs.toList[j]?=some u→W.cell? ((⟨g,0,none⟩:Addr).add j)=some u:=fun j u hj=>by
 rw [Addr.add_lit,bz]
 unfold World.cell?
 rw [h]
 simpa using hj
def nR (d:Nat) (w:World):Nat:=match w.cell? ⟨d,2,none⟩ with
 | some (.bool false)=>1
 | _=>0
theorem Rd.good {d:Nat} {lv:Value} {i:Nat} {b:Bool} {w:World} (h:Rd d lv i b w):nR d w=if b then 0 else 1:=by unfold nR;rw [h.c2];cases b <;> rfl
structure jP (d:Nat) (L:List aZ) (lv:Value) (W1:World) (OL:Out (List Pt)) (step:Nat→Nat→List Pt→Out (List Pt)) (lo mx:Nat) (fin:Bool) (o:Out (List Pt)) (v:Value) (n:Nat) (xs:List Value) (m:Nat) (W:World):Prop where
 out:OL=if fin then o else o.next fun l j=>step m j l
 rd:Rd d lv o.at o.aA W
 mv:Mv W1.heap.size d W1 W
 list:dY W1.heap.size o v n xs W
 le:o.at≤L.length
 lo:lo≤o.at
 cnt:n+(if o.aA then 0 else 1)≤o.at
 fuel:fin=false→o.aA=false→8*(L.length - o.at)+5≤m∧m≤mx
theorem jq {α:Type} {b:Bool} {i:Nat} {o:Out α} (h:(start b i o).aA=false):b=false∧start b i o=o:=by
 cases b
 ·exact ⟨rfl,rfl⟩
 ·cases h
theorem yf {α:Type} {o:Out α} (h:o.aA=false):∃ a,o=.ok a o.at:=by
 cases o with
 | ok a j=>exact ⟨a,rfl⟩
 | bad j=>cases h
theorem Nl {om:Out Unit} {L:List aZ} {K T:By} {F:Int} {ks:List Pt} {p:Pt} {j:Nat} (h:(om.next fun _ q=>part L K T F ks q)=.ok p j):om.aA=false∧p=.mk K T F (jY L om.at) ks:=by
 cases om with
 | bad j=>cases h
 | ok a k =>
  simp only [Out.next,part,Out.ok.injEq] at h
  exact ⟨rfl,h.1.symm⟩
theorem FP {OL:Out (List Pt)} {L:List aZ} {x K T:By} {F:Int} {om:Out Unit} (mE:start OL.aA OL.at (bI L x OL.at)=om) :
  (OL.next fun l k=>(bI L x k).next fun _ m=>part L K T F l m).at=om.at∧(OL.next fun l k=>(bI L x k).next fun _ m=>part L K T F l m).aA=om.aA:=by
 subst mE
 cases OL with
 | bad j=>exact ⟨rfl,rfl⟩
 | ok l k =>
  show ((bI L x k).next fun _ m=>part L K T F l m).at=(bI L x k).at∧((bI L x k).next fun _ m=>part L K T F l m).aA=(bI L x k).aA
  cases bI L x k <;> exact ⟨rfl,rfl⟩
theorem zw {OL:Out (List Pt)} {L:List aZ} {x K T:By} {F:Int} {om:Out Unit} (mE:start OL.aA OL.at (bI L x OL.at)=om) {p:Pt} {j:Nat} (h:(OL.next fun l k=>(bI L x k).next fun _ m=>part L K T F l m)=.ok p j) :
  ∃ ks j',p=.mk K T F (jY L om.at) ks∧OL=.ok ks j':=by
 subst mE
 cases OL with
 | bad j=>cases h
 | ok l k =>
  have h:((bI L x k).next fun _ m=>part L K T F l m)=.ok p j:=h
  cases hm:bI L x k with
  | bad q=>rw [hm] at h;cases h
  | ok u q =>
   rw [hm] at h;simp only [Out.next,part,Out.ok.injEq] at h;refine ⟨l,k,?_,rfl⟩;rw [← h.1]
   show _=Pt.mk K T F (jY L (bI L x k).at) l
   rw [hm];rfl
end T
end Go.Proofs.YtojoahlpgmnbnaaGreatDoor
