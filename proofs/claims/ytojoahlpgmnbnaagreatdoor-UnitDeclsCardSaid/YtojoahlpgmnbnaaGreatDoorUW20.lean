/- What the claim needs of the texts TPrefix, TList. -/
import Derived.Test.YtojoahlpgmnbnaaGreatDoorUWOp
import Derived.Test.YtojoahlpgmnbnaaGreatDoorUW19
import Derived.Test.YtojoahlpgmnbnaaGreatDoorUW18
import Derived.Laws.AppendOwn
import Derived.Laws.OwnMore
import Derived.OwnWalk
import Derived.Maps.AppendAt
set_option maxRecDepth 20000
set_option maxHeartbeats 16000000
namespace Go.Proofs.YtojoahlpgmnbnaaGreatDoor
namespace T
open Go.RowKit
open Go.Lib hiding intOf
open U S L
def TD (j:Nat):UInt8:=match j with
 | 0=>38
 | 1=>42
 | 2=>45
 | _=>33
theorem prefix_at {L:List bn} {m i j:Nat} (hj:j<4) (h0:∀ k,k<j→bH L [TD k] i=false) (h:bH L [TD j] i=true):cr L (m+1) i=(cr L m (i+1)).next fun e k=>part L jK [TD j] (bQ L i) [e] k:=by
 rw [uS]
 rcases j with _|_|_|_|j
 ·rw [au (show bH L [38] i=true from h)];rfl
 ·rw [ai (by rw [show bH L [38] i=false from h0 0 (by omega)];decide),au (show bH L [42] i=true from h)];rfl
 ·rw [ai (by rw [show bH L [38] i=false from h0 0 (by omega)];decide),ai (by rw [show bH L [42] i=false from h0 1 (by omega)];decide),au (show bH L [45] i=true from h)];rfl
 ·rw [ai (by rw [show bH L [38] i=false from h0 0 (by omega)];decide),ai (by rw [show bH L [42] i=false from h0 1 (by omega)];decide),ai (by rw [show bH L [45] i=false from h0 2 (by omega)];decide),au (show bH L [33] i=true from h)];rfl
 ·omega
theorem PQ {L:List bn} {m i:Nat} (h0:∀ k,k<4→bH L [TD k] i=false):cr L (m+1) i=(operand L m i).next fun a j=>tails L m (bQ L i) a j:=by
 rw [uS,ai (by rw [show bH L [38] i=false from h0 0 (by omega)];decide),ai (by rw [show bH L [42] i=false from h0 1 (by omega)];decide),ai (by rw [show bH L [45] i=false from h0 2 (by omega)];decide),ai (by rw [show bH L [33] i=false from h0 3 (by omega)];decide)]
theorem Wo {o:Oper} {a:Act} (x y g off n i c:Nat) (W:World) (ho:o.op=.indexAddr 39 (.tmp x) (.tmp y)) (h1:a.eval (.tmp x)=.slice (some ⟨g,off,none⟩) n c) (h2:a.eval (.tmp y)=.int .i64 i) (hin:i<n):(execOp a.eval o).run Tryz.prog W=.ok (.value (.pointer (some ⟨g,off+i,none⟩))) W:=by
 have hm:(0:Int)≤(i:Int):=by omega
 have hm2:(i:Int)<(n:Int):=by omega
 have hr:(Instr.indexAt 39 (.slice (some ⟨g,off,none⟩) n c) (.int .i64 i)).run Tryz.prog W=.ok (.pointer (some ⟨g,off+i,none⟩)) W:=by
  simp [go_sem]
  intro h
  omega
 unfold execOp
 rw [ho];simp only [h1,h2,iQ,hr,eP,iR]
theorem Kk {W:World} {g j:Nat} {t:TypeId} (h:W.heap[g]?=some (.cells #[.string ⟨#[38]⟩,.string ⟨#[42]⟩,.string ⟨#[45]⟩,.string ⟨#[33]⟩] t (0,0))) (hj:j<4):W.cell? ⟨g,j,none⟩=some (.string (aX [TD j])):=by
 unfold World.cell?
 rw [h]
 rcases j with _|_|_|_|j
 ·rfl
 ·rfl
 ·rfl
 ·rfl
 ·omega
theorem Wq {o:Out By} {L:List bn} {K:By} {F:Int} (ks:List Pt):(o.next fun s j=>part L K s F ks j).at=o.at∧(o.next fun s j=>part L K s F ks j).az=o.az:=by cases o <;> exact ⟨rfl,rfl⟩
theorem Eb {o:Out Unit} {L:List bn} {K T:By} {F:Int} (ks:List Pt):(o.next fun _ j=>part L K T F ks j).at=o.at∧(o.next fun _ j=>part L K T F ks j).az=o.az:=by cases o <;> exact ⟨rfl,rfl⟩
structure Boxed (d:Nat) (lv:Value) (i:Nat) (b:Bool) (q:Nat) (cs new:Array Value) (WA WF:World):Prop where
 rd:Rd d lv i b WF
 box:WF.heap[q]?=some (.cells new 49 (0,0))
 row:WF.heap[WA.heap.size]?=some (.cells cs 49 (0,0))
 far:∀ g,g<WA.heap.size→g≠q→g≠d→WF.heap[g]?=WA.heap[g]?
 mv:∀ B,B≤q→Mv B d WA WF
theorem boxed {d i q:Nat} {lv:Value} {b:Bool} {cs:Array Value} {x0 x1 x2 x3 x4 y0 y1 y2 y3 y4:Value} {WA Z wP:World} (hZ:Below WA.heap.size WA Z) (hrow:Z.heap[WA.heap.size]?=some (.cells cs 49 (0,0))) (hw:kz d lv i b Z wP) (hq:q<WA.heap.size) (hd:d<WA.heap.size) (qD:q≠d) (af5:WA.heap[q]?=some (.cells #[x0,x1,x2,x3,x4] 49 (0,0))) :
  Boxed d lv i b q cs #[y0,y1,y2,y3,y4] WA (((((wP.setCell ⟨q,0,none⟩ y0).setCell ⟨q,1,none⟩ y1).setCell ⟨q,2,none⟩ y2).setCell ⟨q,3,none⟩ y3).setCell ⟨q,4,none⟩ y4):=by
 have far:∀ g,g≠q→(((((wP.setCell ⟨q,0,none⟩ y0).setCell ⟨q,1,none⟩ y1).setCell ⟨q,2,none⟩ y2).setCell ⟨q,3,none⟩ y3).setCell ⟨q,4,none⟩ y4).heap[g]?=wP.heap[g]?:=by
  intro g hg
  repeat rw [aj _ _ _ _ (by show g≠q;omega)]
 have hzr:=(af.1 hrow).1;have Ug:wP.heap[q]?=_:=((hw.2.block q (by omega) qD).trans (hZ.block q hq)).trans af5;refine ⟨(far d (fun h=>qD h.symm)).trans hw.1,dR Ug,(far _ (by omega)).trans ((hw.2.block _ hzr (by omega)).trans hrow),fun g h1 h2 h3=>(far g h2).trans ((hw.2.block g (by omega) h3).trans (hZ.block g h1)),fun B hB=>?_⟩
 exact ((Mv.of_below hZ).mono (by omega)).trans ((hw.2.mono (by omega)).trans (wJ hB))
theorem gP {W:World} {q:Nat} {a b c e f a' b' c' e' f':Value} {t:TypeId} (h:W.heap[q]?=some (.cells #[a,b,c,e,f] t (0,0))) :
  ∃ W',((((W.setCell ⟨q,0,none⟩ a').setCell ⟨q,1,none⟩ b').setCell ⟨q,2,none⟩ c').setCell ⟨q,3,none⟩ e').setCell ⟨q,4,none⟩ f'=W'∧W'.heap[q]?=some (.cells #[a',b',c',e',f'] t (0,0))∧(∀ g,g≠q→W'.heap[g]?=W.heap[g]?)∧W'.heap.size=W.heap.size:=by
 refine ⟨_,rfl,dR h,fun g hg=>?_,by simp⟩
 repeat rw [aj _ _ _ _ (by show g≠q;omega)]
structure uT (d:Nat) (L:List bn) (lv:Value) (i:Nat) (fr:Int) (O:Out Pt) (w W1:World) (n q:Nat) (more:Bool) (o:Out Pt) (k t:ByteArray) (f e:Int) (sl:Option Addr) (sn sc m:Nat) (W:World):Prop where
 out:O=if more then o.next fun a j=>tails L m fr a j else o
 rd:Rd d lv o.at o.az W
 mv:Mv W1.heap.size d W1 W
 box:W.heap[q]?=some (.cells #[.string k,.string t,.int .i64 f,.int .i64 e,.slice sl sn sc] 49 (0,0))
 part:qp W (fun g=>w.heap.size<g∧g≠q) o (.agg #[.string k,.string t,.int .i64 f,.int .i64 e,.slice sl sn sc])
 le:o.at≤L.length
 gt:o.az=false→i<o.at
 fuel:o.az=false→m<n∧8*(L.length - o.at)+1≤m
theorem uT.moved {d:Nat} {L:List bn} {lv:Value} {i:Nat} {fr:Int} {O:Out Pt} {w W1:World} {n q:Nat} {more more':Bool} {o:Out Pt} {k t:ByteArray} {f e:Int} {sl:Option Addr} {sn sc m:Nat} {W W':World}
  (h:uT d L lv i fr O w W1 n q more o k t f e sl sn sc m W) (hm:Mv W.heap.size d W W') (hr:Rd d lv o.at o.az W') (hd:d≤w.heap.size) (qD:q≠d) (ho:O=if more' then o.next fun a j=>tails L m fr a j else o):uT d L lv i fr O w W1 n q more' o k t f e sl sn sc m W' :=
 ⟨ho,hr,h.mv.trans (hm.mono h.mv.size),(hm.block q (af.1 h.box).1 qD).trans h.box,h.part.later (fun g hg hl=>hm.block g hl (by omega)) (fun _ hg=>hg),h.le,h.gt,h.fuel⟩
theorem jF {o:Out Pt} (h:o.az=false):o=.ok o.pt o.at:=by cases o with
 | ok a j=>rfl
 | bad j=>cases h
theorem Kl (d:Nat) (L:List bn) (lv:Value) (hL:L.length≤1000000) (n:Nat) (ihP:∀ m,n=m+1→wR d L lv m) (ihO:∀ m,n=m+1∨m=0→xw d L lv m) (ih:∀ m,m<n→AP d L lv m):wR d L lv n:=by
 intro i b w hR hT hi hn;have hd:=hR.lt;obtain ⟨W1,hW1⟩:∃ W1,w.alloc gu=W1:=⟨_,rfl⟩
 have hb1:Below w.heap.size w W1:=by rw [← hW1];exact (ah _ w).alloc (ae _) _
 have dN:=hid (Mv.of_below (d:=d) hb1)
 have hq1:W1.heap[w.heap.size]?=some (.cells #[.string ⟨#[]⟩,.string ⟨#[]⟩,.int .i64 0,.int .i64 0,.slice none 0 0] 49 (0,0)):=by rw [← hW1];exact aG w _
 have lK:Rd d lv i b W1:=hR.below hb1;have hT1:=hT.mv (Mv.of_below hb1) (ae _);have c1:=nC d L lv i b W1 lK hT1;obtain ⟨fr,hfr⟩:∃ fr,bQ L i=fr:=⟨_,rfl⟩;rw [hfr] at c1;have AM:=hid hfr;have HW1:=hid hW1;have jC:=hid hq1;have HR1:=hid lK;have HT1:=hid hT1;have HN:=hid hn;have HP:=hid ihP;have HOP:=hid ihO;have HI:=hid ih;obtain ⟨O,hO⟩:∃ O,start b i (cr L n i)=O:=⟨_,rfl⟩;have HO:=hid hO;rw [hO];obtain ⟨Q,hQ⟩:∃ Q,Reads d lv O w=Q:=⟨_,rfl⟩;have HQ:=hid hQ;rw [hQ];clear hW1 hq1 hb1 lK hT1 hfr hn ihP ihO ih hO hQ hR hT
 go_enter Tryz.func128,Tryz.ntmps128
 go_wp2_with fail
 rw [HW1.out];refine c1.mono ?_;intro x w2 h2;obtain ⟨rfl,hw2⟩:=h2.went HR1.out;have kG:=hid hw2.2;have HR2:=hid hw2.1;clear c1 h2 hw2
 go_upto_region 3 with fail
 obtain ⟨mk,hmk⟩:∃ q,w2.heap.size=q:=⟨_,rfl⟩;obtain ⟨W3,hW3⟩:∃ W,w2.alloc (.cells #[.string ⟨#[38]⟩,.string ⟨#[42]⟩,.string ⟨#[45]⟩,.string ⟨#[33]⟩] 9)=W:=⟨_,rfl⟩
 have hb3:Below w2.heap.size w2 W3:=by rw [← hW3];exact (ah _ w2).alloc (ae _) _
 have hm3:W3.heap[mk]?=some (.cells #[.string ⟨#[38]⟩,.string ⟨#[42]⟩,.string ⟨#[45]⟩,.string ⟨#[33]⟩] 9 (0,0)):=by rw [← hW3,← hmk];exact aG w2 _
 rw [hW3,hmk];have lh:=hid (kG.out.trans ((Mv.of_below (d:=d) hb3).mono kG.out.size));have HR3:=hid (HR2.out.below hb3);have YE:=hid hm3;have HZ1:=hid (af.1 jC.out).1;have HZ3:Hid (W1.heap.size≤mk∧mk<W3.heap.size):=hid ⟨by rw [← hmk];exact kG.out.size,(af.1 hm3).1⟩;clear hW3 hb3 hm3 hmk kG HR2
 go_wp2_with fail
 go_loopw [5] (fun iv wr=>∃ j:Nat,iv=.int .i64 j∧j≤4∧Hid (∀ k,k<j→(!b&&bH L [TD k] i)=false)∧Hid (Rd d lv i b wr)∧Hid (Mv W3.heap.size d W3 wr)) (fun iv _=>4 - (Go.RowKit.intOf iv).toNat)
 case atStart=>exact ⟨0,rfl,aM _,hid (fun k hk=>absurd hk (aS _)),HR3,hid (Mv.refl _ _ _)⟩
 case round =>
  obtain ⟨j,rfl,hj,HA,HR,HM⟩:=hrel;have Bz:=hid (HT1.out.mv (lh.out.trans (HM.out.mono lh.out.size)) (ae _));have acs:=hid ((HM.out.block mk HZ3.out.2 (by have:=HZ3.out;have:=dN.out.size;omega)).trans YE.out)
  by_cases h4:j<4
  ·have hm:=Kk acs.out h4
   have c2:=fB d L lv i b [TD j] wr HR.out Bz.out (by omega);obtain ⟨ms,hms⟩:∃ u,aX [TD j]=u:=⟨_,rfl⟩;rw [hms] at hm c2;obtain ⟨R1,lK⟩:∃ R1,(!b&&bH L [TD j] i)=R1:=⟨_,rfl⟩;rw [lK] at c2;have HA1:=hid lK;have sU:=hid hms;clear lK hms
   cases R1
   ·go_wp2_with fail
    refine c2.mono ?_;rintro x w5 ⟨rfl,jr⟩;have qE:Hid (kz d lv i b wr w5):=hid jr;clear c2 jr hm
    go_wp2_with fail
    go_roundw
    case rel=>exact ⟨j+1,by go_num,by omega,hid (fun k hk=>if h:k=j then h ▸ HA1.out else HA.out k (by omega)),hid qE.out.1,hid (HM.out.trans (qE.out.2.mono HM.out.size))⟩
    case measure=>simp [Go.RowKit.intOf];omega
   ·have hb:b=false∧bH L [TD j] i=true:=by simpa using HA1.out
    obtain ⟨rfl,his⟩:=hb;have hil:i<L.length:=bR his;obtain ⟨m,rfl⟩:∃ m,n=m+1:=⟨n - 1,by have:=HN.out (by trivial);omega⟩;obtain ⟨o,ho⟩:∃ o,cr L m (i+1)=o:=⟨_,rfl⟩
    have q8:Hid (O=o.next fun x k=>part L jK [TD j] fr [x] k):=hid (by
     rw [← HO.out,← AM.out,← ho]
     exact prefix_at h4 (fun k hk=>by simpa using HA.out k hk) his)
    have Ie:Hid (o.at≤L.length):=hid (by rw [← ho];exact ((iH m).cr (i+1) hil).le);have HOE:=hid ho;clear ho his
    go_wp2_with fail
    refine c2.mono ?_;rintro x w5 ⟨rfl,jr⟩;have jr:kz d lv (i+1) false wr w5:=jr;have mU:=hid (HM.out.trans (jr.2.mono HM.out.size));have c3:=HP.out m rfl (i+1) false w5 jr.1 (Bz.out.mv jr.2 (ae _)) (by omega) (fun _=>by have:=HN.out (by trivial);omega);rw [aZ,HOE.out] at c3;clear c2 jr hm
    go_wp2_with fail
    refine c3.mono ?_;rintro x w6 ⟨v,rfl,⟨k,t,f,e,sl,sn,sc,rfl,hnn,hv⟩,xz⟩;have HV:=hid hv;have Xr:=hid xz;clear c3 hv xz
    go_upto_region 9 with fail
    obtain ⟨q,hq⟩:∃ q,w6.heap.size=q:=⟨_,rfl⟩;obtain ⟨W7,Uf⟩:∃ W,w6.alloc (.cells #[.string k,.string t,.int .i64 f,.int .i64 e,.slice sl sn sc] 49)=W:=⟨_,rfl⟩
    have rW:Below w6.heap.size w6 W7:=by rw [← Uf];exact (ah _ w6).alloc (ae _) _
    have iZ:W7.heap[q]?=some (.cells #[.string k,.string t,.int .i64 f,.int .i64 e,.slice sl sn sc] 49 (0,0)):=by rw [← Uf,← hq];exact aG w6 _
    rw [Uf,hq];have oq:=hid (mU.out.trans (Xr.out.2.mono mU.out.size));have iK:=hid (oq.out.trans ((Mv.of_below (d:=d) rW).mono oq.out.size));have sH:=hid (Xr.out.1.below rW);have acu:=(iK.out.block mk HZ3.out.2 (by have:=HZ3.out;have:=dN.out.size;omega)).trans YE.out;have pY:=hid iZ;have Xh:=hid rW;have IC:=oq.out.size;have z3:=HZ3.out;have z1:=HZ1.out
    have hmq:mk<q:=by omega
    have hqq:q<W7.heap.size:=(af.1 iZ).1;have HQQ:Hid (w.heap.size<mk∧mk<q∧q<W7.heap.size∧q=w6.heap.size∧W3.heap.size≤w6.heap.size∧W1.heap.size≤W3.heap.size):=hid ⟨by omega,hmq,hqq,hq.symm,IC,lh.out.size⟩;have hS0:W7.drew.heap[mk]?=some (.cells #[.string ⟨#[38]⟩,.string ⟨#[42]⟩,.string ⟨#[45]⟩,.string ⟨#[33]⟩] 9 (0,0))∧W7.drew.heap[q]?=some (.cells #[.string k,.string t,.int .i64 f,.int .i64 e,.slice sl sn sc] 49 (0,0)):=⟨acu,iZ⟩;have hRV:Rd d lv o.at o.az W7.drew:=sH.out;have hMV:Mv W3.heap.size d W3 W7.drew:=iK.out.drewN 1;have hsV:W7.drew.heap.size=W7.heap.size:=rfl
    have h67:∀ g,g<w6.heap.size→W7.drew.heap[g]?=w6.heap[g]?:=fun g hg=>rW.block g hg
    have HV6:=hid h67;clear Uf rW iZ acu hq IC z3 z1 hmq hqq h67
    refine aK (S:=fun X=>X.heap[mk]?=some (.cells #[.string ⟨#[38]⟩,.string ⟨#[42]⟩,.string ⟨#[45]⟩,.string ⟨#[33]⟩] 9 (0,0))∧X.heap[q]?=some (.cells #[.string k,.string t,.int .i64 f,.int .i64 e,.slice sl sn sc] 49 (0,0))) (by kernel_rfl) hS0 fun ag=>?_
    clear hS0;have EK:=hid hRV;have AA:=hid hMV;have vZ:=hid hsV;clear hRV hMV hsV;obtain ⟨V,hV⟩:∃ V,W7.drew=V:=⟨_,rfl⟩;rw [hV] at ag EK AA vZ HV6 ⊢;clear hV;refine OP.m 0 rfl (.pointer (some ⟨d,0,none⟩)) ag ?_;simp only [OP.s];refine OP.m 1 rfl (.slice (some ⟨mk,0,none⟩) 4 4) ag ?_;simp only [OP.s];refine OP.m 2 rfl (.int .i64 j) ag ?_;simp only [OP.s];refine OP.t 3 rfl (.pointer (some ⟨mk,j,none⟩)) (fun X hX=>(Wo 33 34 mk 0 4 j 4 X rfl rfl rfl h4).trans (by rw [bA])) ag ?_;simp only [OP.s];refine OP.t 4 rfl (.string ms) (fun X hX=>by have q:=Kk hX.1 h4;rw [sU.out] at q;go_simp) ag ?_;simp only [OP.s];refine OP.m 5 rfl (.int .i64 fr) ag ?_;simp only [OP.s];refine OP.t 6 rfl (.agg #[.string k,.string t,.int .i64 f,.int .i64 e,.slice sl sn sc]) (fun X hX=>by obtain ⟨q0,q1,q2,q3,q4⟩:=(aF hX.2).1;go_simp) ag ?_;simp only [OP.s]
    refine OP.r 7 rfl fun K hK=>?_
    go_simp
    obtain ⟨z,hz⟩:∃ z,V.heap.size=z:=⟨_,rfl⟩;obtain ⟨Z,hZ⟩:∃ Z,V.alloc (.cells #[.string k,.string t,.int .i64 f,.int .i64 e,.slice sl sn sc] 49)=Z:=⟨_,rfl⟩
    have hbz:Below V.heap.size V Z:=by rw [← hZ];exact (ah _ V).alloc (ae _) _
    have hrz:Z.heap[z]?=some (.cells #[.string k,.string t,.int .i64 f,.int .i64 e,.slice sl sn sc] 49 (0,0)):=by rw [← hZ,← hz];exact aG V _
    rw [hZ,hz];have Oa:=vZ.out;have hQQ:=HQQ.out;have wS:Z.heap[mk]?=some (.cells #[.string ⟨#[38]⟩,.string ⟨#[42]⟩,.string ⟨#[45]⟩,.string ⟨#[33]⟩] 9 (0,0))∧Z.heap[q]?=some (.cells #[.string k,.string t,.int .i64 f,.int .i64 e,.slice sl sn sc] 49 (0,0)):=⟨(hbz.block mk (by omega)).trans ag.1,(hbz.block q (by omega)).trans ag.2⟩;have hMZ:Mv W3.heap.size d W3 Z:=AA.out.trans ((Mv.of_below hbz).mono AA.out.size);have c4:=eZ d L lv o.at o.az ⟨#[117,110,97,114,121]⟩ ms fr (some ⟨z,0,none⟩) 1 1 Z (EK.out.below hbz) (HT1.out.mv (lh.out.trans (hMZ.mono lh.out.size)) (ae _)) Ie.out hL;obtain ⟨ez,jB⟩:∃ u,jZ L o.at=u:=⟨_,rfl⟩;rw [jB] at c4;have sN:=hid jB;have Cs:=hid hbz;have Bw:=hid hrz;have qw:=hid hMZ;have xF:=hid hz;clear hZ hbz hrz hMZ jB hz hQQ Oa;refine hK.out _ _ (wS) (fun jM=>?_)
    try simp only [OP.s]
    clear hK K
    refine OP.r 8 rfl fun K hK=>?_
    go_simp
    go_at_call 66
    refine c4.mono ?_;rintro x wP ⟨rfl,wT⟩;have hQQ:=HQQ.out;have Oa:=vZ.out;have sO:wP.heap[mk]?=some (.cells #[.string ⟨#[38]⟩,.string ⟨#[42]⟩,.string ⟨#[45]⟩,.string ⟨#[33]⟩] 9 (0,0))∧wP.heap[q]?=some (.cells #[.string k,.string t,.int .i64 f,.int .i64 e,.slice sl sn sc] 49 (0,0)):=⟨(wT.2.block mk (by have:=(af.1 jM.1).1;omega) (by have:=dN.out.size;omega)).trans jM.1,(wT.2.block q (by have:=(af.1 jM.2).1;omega) (by have:=dN.out.size;omega)).trans jM.2⟩;have PR:=hid (qw.out.trans (wT.2.mono qw.out.size));have FZ:=hid wT;clear c4 wT;dsimp only;refine hK.out _ _ (sO) (fun lS=>?_)
    try simp only [OP.s]
    clear hK K;have hq8:wP.heap[w.heap.size]?=_:=((lh.out.trans (PR.out.mono lh.out.size)).block w.heap.size HZ1.out (by omega)).trans jC.out;obtain ⟨⟨r0,r1,r2,r3,r4⟩,gz⟩:=aF hq8;have g0:=gz 0;have g1:=gz 1;have g2:=gz 2;have g3:=gz 3;have g4:=gz 4;obtain ⟨WF,Ea,IJ,Km,-⟩:=gP (a':=.string ⟨#[117,110,97,114,121]⟩) (b':=.string ms) (c':=.int .i64 fr) (e':=.int .i64 ez) (f':=.slice (some ⟨z,0,none⟩) 1 1) hq8;have oK:WF.heap[mk]?=some (.cells #[.string ⟨#[38]⟩,.string ⟨#[42]⟩,.string ⟨#[45]⟩,.string ⟨#[33]⟩] 9 (0,0))∧WF.heap[q]?=some (.cells #[.string k,.string t,.int .i64 f,.int .i64 e,.slice sl sn sc] 49 (0,0)):=⟨(Km mk (by omega)).trans lS.1,(Km q (by omega)).trans lS.2⟩;have HQ8:=hid hq8;have Ws:=hid IJ;have Ua:=hid Ea;clear gz hq8 IJ Km hQQ Oa
    refine OP.r 9 rfl fun K hK=>?_
    go_simp
    refine hK.out _ _ (oK) (fun qC=>?_)
    try simp only [OP.s]
    clear hK K;clear r0 r1 r2 r3 r4 g0 g1 g2 g3 g4 Ea ag jM lS qC wS sO oK;refine bz (by kernel_rfl) ?_ _
    go_wp2_with fail
    refine aA (v:=.agg #[.string ⟨#[117,110,97,114,121]⟩,.string ms,.int .i64 fr,.int .i64 ez,.slice (some ⟨z,0,none⟩) 1 1]) (aQ rfl _ _ w.heap.size 49 #[.string ⟨#[117,110,97,114,121]⟩,.string ms,.int .i64 fr,.int .i64 ez,.slice (some ⟨z,0,none⟩) 1 1] (0,0) _ (by rfl) Ws.out Tryz.underlying49 rfl (by kernel_rfl)) rfl ?_;rw [← HQ.out,q8.out,← Ua.out];have zz:=xF.out;have hQQ:=HQQ.out;have Oa:=vZ.out;have zq:=dN.out.size;have zb:=Cs.out.size;have z5:=mU.out.size;have z3:=HZ3.out;have mQ:wP.heap[z]?=_:=(FZ.out.2.block z (af.1 Bw.out).1 (by omega)).trans Bw.out;refine dM hd (dN.out.trans ((lh.out.trans (PR.out.mono lh.out.size)).mono dN.out.size)) FZ.out.1 (rT fun x=>[x]).1 (rT fun x=>[x]).2 ?_ ⟨ae _,ae _⟩;rw [← sU.out]
    refine AL (K:=jK) HV.out (fun g hg hl=>?_) mQ (fun g hg=>?_) (by omega) sN.out
    ·exact (FZ.out.2.block g (by omega) (by omega)).trans ((Cs.out.block g (by omega)).trans (HV6.out g hl))
    ·omega
  ·obtain rfl:j=4:=by omega
   obtain ⟨m0,o0,ho,hOo,hfu⟩:∃ m0 o,start b i (operand L m0 i)=o∧O=o.next (fun a j=>tails L m0 fr a j)∧(o.az=false→m0<n∧8*(L.length - o.at)+1≤m0)∧(n=m0+1∨m0=0)∧(b=false→8*(L.length - i)+1≤m0):=by
    cases b
    ·have h1:=HN.out rfl
     obtain ⟨m,rfl⟩:∃ m,n=m+1:=⟨n - 1,by omega⟩;refine ⟨m,_,rfl,by rw [← HO.out,← AM.out,aZ];exact PQ (fun k hk=>by simpa using HA.out k hk),?_,.inl rfl,fun _=>by omega⟩;intro hb;have:=((iH m).operand i hi).gt hb;have:=((iH m).operand i hi).le;rw [aZ]
     omega
    ·exact ⟨0,.bad i,rfl,HO.out.symm,(fun h=>by cases h),.inr rfl,(fun h=>by cases h)⟩
   have hfw:pI L i b o0:=by rw [← ho];exact .begun hi ((iH m0).operand i hi).toFw
   have hgt:o0.az=false→i<o0.at:=by
    rw [← ho]
    cases b
    ·exact ((iH m0).operand i hi).gt
    ·intro h;cases h
   have c2:=HOP.out m0 hfu.2.1 i b wr HR.out Bz.out hi hfu.2.2;rw [ho] at c2;have q8:=hid hOo;have HF:=hid hfw;have HGT:=hid hgt;have HFU:=hid hfu.1;clear hfu hOo hfw hgt ho
   go_wp2_with fail
   refine c2.mono ?_;rintro x w4 ⟨v,rfl,⟨k,t,f,e,sl,sn,sc,rfl,hnn,hv⟩,hw4⟩;have HV:=hid hv;have vE:=hid hw4;clear c2 hv hw4
   go_upto_region 11 with fail
   obtain ⟨q,hq⟩:∃ q,w4.heap.size=q:=⟨_,rfl⟩;obtain ⟨W5,Ig⟩:∃ W,w4.alloc (.cells #[.string k,.string t,.int .i64 f,.int .i64 e,.slice sl sn sc] 49)=W:=⟨_,rfl⟩
   have hb5:Below w4.heap.size w4 W5:=by rw [← Ig];exact (ah _ w4).alloc (ae _) _
   have xZ:W5.heap[q]?=some (.cells #[.string k,.string t,.int .i64 f,.int .i64 e,.slice sl sn sc] 49 (0,0)):=by rw [← Ig,← hq];exact aG w4 _
   rw [Ig,hq];have Kb:=lh.out.size;have z3r:=HM.out.size;have zr4:=vE.out.2.size;have z3:=HZ3.out;have z1:=HZ1.out
   have oH:w.heap.size<q∧W1.heap.size≤q∧w.heap.size<wr.heap.size:=by omega
   have Zs:Mv W1.heap.size d W1 wr:=lh.out.trans (HM.out.mono lh.out.size)
   have hin:uT d L lv i fr O w W1 n q true o0 k t f e sl sn sc m0 W5 :=
    ⟨q8.out,vE.out.1.below hb5,(Zs.trans (vE.out.2.mono Zs.size)).trans ((Mv.of_below hb5).mono (by omega)),xZ,
     ⟨k,t,f,e,sl,sn,sc,rfl,hnn,fun p j hp=>⟨(HV.out p j hp).1,(aU.live _ _ (HV.out p j hp).2).later (Mv.still (B:=w4.heap.size) (d:=d) (Mv.of_below hb5) (ae _) (fun g hg=>by omega)) (fun g hg=>by omega)⟩⟩,HF.out.le,HGT.out,HFU.out⟩
   have fC:=hid hin;have Qi:=hid oH;clear hin Ig hb5 xZ oH Zs hnn HV vE HFU HGT HF q8 hq Kb z3r zr4 z3 z1 HA HR HM acs Bz
   go_wp2_with fail
   go_loopw [9] (fun mv X=>∃ (more:Bool) (o:Out Pt) (k t:ByteArray) (f e:Int) (sl:Option Addr) (sn sc m:Nat),mv=.bool more∧Hid (uT d L lv i fr O w W1 n q more o k t f e sl sn sc m X)) (fun mv X=>(L.length+1 - atR d X)*2+(match mv with|.bool true=>1|_=>0))
   case atStart=>exact ⟨true,o0,k,t,f,e,sl,sn,sc,m0,rfl,fC⟩
   case round =>
    clear fC;obtain ⟨more,o,k,t,f,e,sl,sn,sc,m,rfl,fC⟩:=hrel
    cases more
    focus
     have hox:O=o:=fC.out.out
    rotate_left
    focus
     have hat:=fC.out.rd.at;have c2:=fC.out.rd.c2
     cases fu:o.az
     ·rw [fu] at c2
      obtain ⟨oa,hoa⟩:∃ u,o.at=u:=⟨_,rfl⟩;have hop:=jF fu;obtain ⟨pa,hpa⟩:∃ u,o.pt=u:=⟨_,rfl⟩;rw [hpa,hoa] at hop;subst hop;have hfu:=fC.out.fuel rfl;have hgt:i<oa:=fC.out.gt rfl;have hle:oa≤L.length:=fC.out.le;have hfu2:8*(L.length - oa)+1≤m:=hfu.2;obtain ⟨m',rfl⟩:∃ m',m=m'+1:=⟨m - 1,by omega⟩
      have hmn:m'<n:=by omega
      have hout:O=tails L (m'+1) fr pa oa:=fC.out.out;rw [D9] at hout;have yA:=hid hout;have hTX:=HT1.out.mv fC.out.mv (ae _);have Mb:=hid hTX;have HRX:Hid (Rd d lv oa false wr):=hid fC.out.rd;have HAT:Hid (atR d wr=oa):=hid hat;have c3:=fB d L lv oa false [46] wr HRX.out hTX (by omega);rw [show aX [46]=⟨#[46]⟩ from rfl] at c3
      have qD:q≠d:=by have:=Qi.out;omega
      obtain ⟨R1,lK⟩:∃ R1,(!false&&bH L [46] oa)=R1:=⟨_,rfl⟩;rw [lK] at c3;have HA1:Hid (bH L [46] oa=R1):=hid lK;clear lK hout hTX hfu hat fu hpa hoa
      cases R1
      ·have HNo:Hid (∀ X,kz d lv oa false wr X→True):=hid (fun _ _=>trivial)
       go_wp2_with fail
       refine c3.mono ?_;rintro x w5 ⟨rfl,jr⟩;have jr:kz d lv oa false wr w5:=jr;have c4:=fB d L lv oa false [91] w5 jr.1 (Mb.out.mv jr.2 (ae _)) (by omega);rw [show aX [91]=⟨#[91]⟩ from rfl] at c4;have qE:=hid jr;obtain ⟨R2,hR2⟩:∃ R2,(!false&&bH L [91] oa)=R2:=⟨_,rfl⟩;rw [hR2] at c4;have HA2:Hid (bH L [91] oa=R2):=hid hR2;clear c3 jr hR2 c2 HNo
       cases R2
       ·go_wp2_with fail
        refine c4.mono ?_;rintro x w6 ⟨rfl,xz⟩;have xz:kz d lv oa false w5 w6:=xz
        have oJ:=hid (fC.out.moved (more':=false) (qE.out.2.trans (xz.2.mono qE.out.2.size)) xz.1 (by omega) qD (by
         rw [yA.out,ai (by rw [HA1.out];decide),ai (by rw [HA2.out];decide)];rfl))
        have sU:Hid (atR d w6=oa):=hid xz.1.at;clear c4 xz
        go_wp2_with fail
        go_roundw
        case rel=>exact ⟨false,_,k,t,f,e,sl,sn,sc,_,rfl,oJ⟩
        case measure =>
         rw [sU.out,HAT.out]
         show (L.length+1 - oa)*2+0<(L.length+1 - oa)*2+1
         omega
       ·have hil:oa<L.length:=bR HA2.out
        obtain ⟨ob,fu⟩:∃ u,expr L m' 0 (oa+1)=u:=⟨_,rfl⟩;have EH:Hid (wI L (oa+1) ob):=hid (by rw [← fu];exact (iH m').expr (oa+1) (by omega) 0);obtain ⟨om,mH⟩:∃ u,start ob.az ob.at (bJ L [93] ob.at)=u:=⟨_,rfl⟩
        have Ie:Hid (ob.at≤om.at∧om.at≤L.length):=hid (by
         rw [← mH]
         cases hb:ob.az
         ·exact ⟨(bU _ EH.out.le).ge,(bU _ EH.out.le).le⟩
         ·exact ⟨ae _,EH.out.le⟩)
        have HSO:Hid (om.az=false→ob.az=false):=hid (by
         rw [← mH]
         cases hb:ob.az
         ·exact fun _=>rfl
         ·exact fun h=>by cases h)
        have q8:Hid (O=(om.next fun _ j=>part L lu [] fr [pa,ob.pt] j).next fun a j=>tails L m' fr a j):=hid (by
         rw [yA.out,ai (by rw [HA1.out];decide),au HA2.out,qZ,fu,← mH]
         cases ob <;> rfl)
        go_wp2_with fail
        refine c4.mono ?_;rintro x w6 ⟨rfl,xz⟩;have xz:kz d lv (oa+1) false w5 w6:=xz;have oq:=hid (qE.out.2.trans (xz.2.mono qE.out.2.size));have c5:=HI.out m' hmn 0 (oa+1) false w6 xz.1 (Mb.out.mv oq.out (ae _)) (by omega) (fun _=>by omega);rw [aZ,fu] at c5;have HOM:=hid mH;clear c4 xz fu mH
        go_wp2_with fail
        refine c5.mono ?_;rintro x w7 ⟨v,rfl,⟨kb,tb,fb,eb,ab,nb,cb,rfl,hnb,hvb⟩,hw7⟩;have Il:=hid hvb;have sI:=hid hw7;clear c5 hvb hw7
        go_upto_region 20 with fail
        obtain ⟨qb,AQ⟩:∃ q,w7.heap.size=q:=⟨_,rfl⟩;obtain ⟨W8,Me⟩:∃ W,w7.alloc (.cells #[.string kb,.string tb,.int .i64 fb,.int .i64 eb,.slice ab nb cb] 49)=W:=⟨_,rfl⟩
        have qO:Below w7.heap.size w7 W8:=by rw [← Me];exact (ah _ w7).alloc (ae _) _
        have Wt:W8.heap[qb]?=some (.cells #[.string kb,.string tb,.int .i64 fb,.int .i64 eb,.slice ab nb cb] 49 (0,0)):=by rw [← Me,← AQ];exact aG w7 _
        rw [Me,AQ];have lD:=hid ((oq.out.trans (sI.out.2.mono oq.out.size)).trans ((Mv.of_below (d:=d) qO).mono (aJ oq.out.size sI.out.2.size)));have uq:=hid (sI.out.1.below qO);have HK8:=hid Wt;have Xl:=hid qO;have Wu:Hid (w6.heap.size≤w7.heap.size∧qb=w7.heap.size∧qb<W8.heap.size∧wr.heap.size≤w6.heap.size):=hid ⟨sI.out.2.size,AQ.symm,(af.1 Wt).1,oq.out.size⟩;clear Me AQ qO Wt;have c6:=jc d L lv ob.at ob.az [93] W8 uq.out (Mb.out.mv lD.out (ae _)) (by have:=EH.out.le;omega);rw [HOM.out,show aX [93]=⟨#[93]⟩ from rfl] at c6
        go_wp2_with fail
        refine c6.mono ?_;rintro x w9 ⟨rfl,dU⟩;have jw:=hid (lD.out.trans (dU.2.mono lD.out.size));have hq9:=(jw.out.block q (af.1 fC.out.box).1 qD).trans fC.out.box
        have hdq:d≠qb:=by have:=Wu.out;have:=HRX.out.lt;omega
        have oP:=(dU.2.block qb Wu.out.2.2.1 hdq.symm).trans HK8.out;obtain ⟨⟨l0,l1,l2,l3,l4⟩,-⟩:=aF hq9;obtain ⟨⟨b0,b1,b2,b3,b4⟩,-⟩:=aF oP;obtain ⟨z,hz⟩:∃ z,w9.heap.size=z:=⟨_,rfl⟩;obtain ⟨Z,hZ⟩:∃ Z,w9.alloc (.cells #[.string k,.string t,.int .i64 f,.int .i64 e,.slice sl sn sc,.string kb,.string tb,.int .i64 fb,.int .i64 eb,.slice ab nb cb] 49)=Z:=⟨_,rfl⟩
        have hbz:Below w9.heap.size w9 Z:=by rw [← hZ];exact (ah _ w9).alloc (ae _) _
        have hrz:Z.heap[w9.heap.size]?=some (.cells #[.string k,.string t,.int .i64 f,.int .i64 e,.slice sl sn sc,.string kb,.string tb,.int .i64 fb,.int .i64 eb,.slice ab nb cb] 49 (0,0)):=by rw [← hZ];exact aG w9 _
        have c7:=eZ d L lv om.at om.az ⟨#[105,110,100,101,120]⟩ ⟨#[]⟩ fr (some ⟨z,0,none⟩) 2 2 Z (dU.1.below hbz) (Mb.out.mv (jw.out.trans ((Mv.of_below hbz).mono jw.out.size)) (ae _)) Ie.out.2 hL;obtain ⟨ez,jB⟩:∃ u,jZ L om.at=u:=⟨_,rfl⟩;rw [jB] at c7;have sN:=hid jB;have nM:=hid hq9;have Cs:=hid hbz;have Bw:=hid hrz;have hzq:q<w9.heap.size∧d<w9.heap.size∧W8.heap.size≤w9.heap.size:=⟨(af.1 hq9).1,dU.1.lt,dU.2.size⟩;have xJ:=hid hzq;have NK:=hid dU;rw [← hz] at c7;clear c6 dU hq9 oP jB hbz hrz hz hzq
        go_wp2_with fail
        try rw [hZ]
        refine c7.mono ?_;rintro x wP ⟨rfl,wT⟩;have Ug:wP.heap[q]?=_:=(wT.2.block q (by have:=Cs.out.size;have:=xJ.out;omega) qD).trans ((Cs.out.block q xJ.out.1).trans nM.out);obtain ⟨⟨u0,u1,u2,u3,u4⟩,uz⟩:=aF Ug;have v0:=uz 0;have v1:=uz 1;have v2:=uz 2;have v3:=uz 3;have v4:=uz 4;obtain ⟨WF,Ea,AR⟩:∃ WF,(((((wP.setCell ⟨q,0,none⟩ (.string ⟨#[105,110,100,101,120]⟩)).setCell ⟨q,1,none⟩ (.string ⟨#[]⟩)).setCell ⟨q,2,none⟩ (.int .i64 fr)).setCell ⟨q,3,none⟩ (.int .i64 ez)).setCell ⟨q,4,none⟩ (.slice (some ⟨w9.heap.size,0,none⟩) 2 2))=WF∧Boxed d lv om.at om.az q _ _ w9 WF:=⟨_,rfl,boxed Cs.out Bw.out wT xJ.out.1 xJ.out.2.1 qD nM.out⟩;have hout2:=Eb (o:=om) (L:=L) (K:=lu) (T:=[]) (F:=fr) [pa,ob.pt]
        have hpv:qp WF (fun g=>w.heap.size<g∧g≠q) (om.next fun _ j=>part L lu [] fr [pa,ob.pt] j) (.agg #[.string ⟨#[105,110,100,101,120]⟩,.string ⟨#[]⟩,.int .i64 fr,.int .i64 ez,.slice (some ⟨w9.heap.size,0,none⟩) 2 2]):=by
         refine kM AR.row ⟨by have:=Qi.out;have:=xJ.out;omega,by have:=xJ.out;omega⟩ (fun p j fK=>?_) (by omega) (ae _);have jB:=sN.out;have hso:=HSO.out
         cases om with
         | bad j'=>cases fK
         | ok s j' =>
          simp only [Out.next,part,Out.ok.injEq] at fK;obtain ⟨rfl,rfl⟩:=fK;refine ⟨lu,[],[pa,ob.pt],by rw [← jB];rfl,rfl,rfl,rfl,?_⟩;obtain ⟨k',t',f',e',a',n',c',h1,h2,h3⟩:=fC.out.part;have h4:=congrArg (fun v:Value=>match v with|.agg xs=>xs.toList|_=>[]) h1
          simp at h4
          obtain ⟨rfl,rfl,rfl,rfl,rfl,rfl,rfl⟩:=h4;obtain ⟨g1,g2⟩:=h3 pa oa rfl;obtain ⟨e1,e2⟩:=Il.out ob.pt ob.at (jF (hso rfl));have Qj:=Xl.out.size;have hq9:=Qi.out;have hqx:=(af.1 fC.out.box).1;have w1:=g2.later (W':=WF) (R':=fun g=>w.heap.size<g∧g≠q) (fun g' hg' hl=>(AR.far g' (by have:=jw.out.size;omega) hg'.2 (by omega)).trans (jw.out.block g' hl (by omega))) (fun g' hg'=>hg');have w2:=(aU.live _ _ e2).later (W':=WF) (R':=fun g=>w.heap.size<g∧g≠q) (fun g' hg' hl=>(AR.far g' (by have:=xJ.out;have:=Wu.out;omega) (by have:=Wu.out;omega) (by have:=Wu.out;have:=HRX.out.lt;omega)).trans ((NK.out.2.block g' (by have:=Wu.out;omega) (by have:=Wu.out;have:=HRX.out.lt;omega)).trans (Xl.out.block g' hl))) (fun g' hg'=>⟨by have:=Wu.out;omega,by have:=Wu.out;omega⟩)
          show aP WF _ _ (([.string k,.string t,.int .i64 f,.int .i64 e,.slice sl sn sc]:List Value)++([.string kb,.string tb,.int .i64 fb,.int .i64 eb,.slice ab nb cb]++[]))
          rw [jE g1,jE e1]
          exact ⟨_,_,rfl,w1,_,_,rfl,w2,rfl⟩
        have hmv:Mv W1.heap.size d W1 WF:=fC.out.mv.trans ((jw.out.mono fC.out.mv.size).trans (AR.mv _ Qi.out.2.1));have oJ:Hid (uT d L lv i fr O w W1 n q true (om.next fun _ j=>part L lu [] fr [pa,ob.pt] j) ⟨#[105,110,100,101,120]⟩ ⟨#[]⟩ fr ez (some ⟨w9.heap.size,0,none⟩) 2 2 m' WF):=hid ⟨by rw [q8.out];rfl,by rw [hout2.1,hout2.2];exact AR.rd,hmv,AR.box,hpv,by rw [hout2.1];exact Ie.out.2,fun _=>by rw [hout2.1];have:=Ie.out;have:=EH.out.ge;omega,fun _=>by rw [hout2.1];have:=Ie.out;have:=EH.out.ge;omega⟩;have sU:Hid (atR d WF=om.at):=hid AR.rd.at;clear c7 wT Ug uz AR hout2 hpv hmv l0 l1 l2 l3 l4 b0 b1 b2 b3 b4
        go_wp2_with fail
        go_roundw
        case rel=>exact ⟨true,_,_,_,_,_,_,_,_,m',rfl,oJ⟩
        case measure =>
         rw [sU.out,HAT.out];have:=Ie.out;have:=EH.out.ge
         show (L.length+1 - om.at)*2+1<(L.length+1 - oa)*2+1
         omega
      ·have hil:oa<L.length:=bR HA1.out
       obtain ⟨nm,hnm⟩:∃ u,gG L (oa+1)=u:=⟨_,rfl⟩;have Ie:Hid (wI L (oa+1) nm):=hid (by rw [← hnm];exact jo (by omega))
       have q8:Hid (O=(nm.next fun s j=>part L je s fr [pa] j).next fun a j=>tails L m' fr a j):=hid (by
        rw [yA.out,au HA1.out,qZ,hnm];rfl)
       go_wp2_with fail
       refine c3.mono ?_;rintro x w5 ⟨rfl,jr⟩;have jr:kz d lv (oa+1) false wr w5:=jr;have c4:=nN d L lv (oa+1) false w5 jr.1 (Mb.out.mv jr.2 (ae _)) (by omega);rw [aZ,hnm] at c4;obtain ⟨sv,hsv⟩:∃ u,xI nm=u:=⟨_,rfl⟩;rw [hsv] at c4;have qE:=hid jr;have vZ:=hid hsv;clear c3 jr c2 hnm hsv
       go_wp2_with fail
       refine c4.mono ?_;rintro x w6 ⟨rfl,xz⟩;have oq:=hid (qE.out.2.trans (xz.2.mono qE.out.2.size));have hb6:=(oq.out.block q (af.1 fC.out.box).1 qD).trans fC.out.box;obtain ⟨⟨l0,l1,l2,l3,l4⟩,-⟩:=aF hb6;obtain ⟨z,hz⟩:∃ z,w6.heap.size=z:=⟨_,rfl⟩;obtain ⟨Z,hZ⟩:∃ Z,w6.alloc (.cells #[.string k,.string t,.int .i64 f,.int .i64 e,.slice sl sn sc] 49)=Z:=⟨_,rfl⟩
       have hbz:Below w6.heap.size w6 Z:=by rw [← hZ];exact (ah _ w6).alloc (ae _) _
       have hrz:Z.heap[w6.heap.size]?=some (.cells #[.string k,.string t,.int .i64 f,.int .i64 e,.slice sl sn sc] 49 (0,0)):=by rw [← hZ];exact aG w6 _
       have c5:=eZ d L lv nm.at nm.az ⟨#[102,105,101,108,100]⟩ sv fr (some ⟨z,0,none⟩) 1 1 Z (xz.1.below hbz) (Mb.out.mv (oq.out.trans ((Mv.of_below hbz).mono oq.out.size)) (ae _)) Ie.out.le hL;obtain ⟨ez,jB⟩:∃ u,jZ L nm.at=u:=⟨_,rfl⟩;rw [jB] at c5;have sN:=hid jB;have nM:=hid hb6;have Cs:=hid hbz;have Bw:=hid hrz;have xF:=hid hz;have hzq:q<w6.heap.size∧d<w6.heap.size:=⟨(af.1 hb6).1,xz.1.lt⟩;have xJ:=hid hzq;rw [← hz] at c5;clear c4 xz hb6 jB hbz hrz hz hzq
       go_wp2_with fail
       try rw [hZ]
       refine c5.mono ?_;rintro x wP ⟨rfl,wT⟩;have Ug:wP.heap[q]?=_:=(wT.2.block q (by have:=Cs.out.size;have:=xJ.out;omega) qD).trans ((Cs.out.block q xJ.out.1).trans nM.out);obtain ⟨⟨u0,u1,u2,u3,u4⟩,uz⟩:=aF Ug;have v0:=uz 0;have v1:=uz 1;have v2:=uz 2;have v3:=uz 3;have v4:=uz 4;obtain ⟨WF,Ea,AR⟩:∃ WF,(((((wP.setCell ⟨q,0,none⟩ (.string ⟨#[102,105,101,108,100]⟩)).setCell ⟨q,1,none⟩ (.string sv)).setCell ⟨q,2,none⟩ (.int .i64 fr)).setCell ⟨q,3,none⟩ (.int .i64 ez)).setCell ⟨q,4,none⟩ (.slice (some ⟨w6.heap.size,0,none⟩) 1 1))=WF∧Boxed d lv nm.at nm.az q _ _ w6 WF:=⟨_,rfl,boxed Cs.out Bw.out wT xJ.out.1 xJ.out.2 qD nM.out⟩;have hout2:=Wq (o:=nm) (L:=L) (K:=je) (F:=fr) [pa]
       have hpv:qp WF (fun g=>w.heap.size<g∧g≠q) (nm.next fun s j=>part L je s fr [pa] j) (.agg #[.string ⟨#[102,105,101,108,100]⟩,.string sv,.int .i64 fr,.int .i64 ez,.slice (some ⟨w6.heap.size,0,none⟩) 1 1]):=by
        refine kM AR.row ⟨by have:=Qi.out;have:=xJ.out;omega,by have:=xJ.out;omega⟩ (fun p j fK=>?_) (by omega) (ae _);have jB:=sN.out;have hsv:=vZ.out
        cases nm with
        | bad j'=>cases fK
        | ok s j' =>
         simp only [Out.next,part,Out.ok.injEq] at fK;obtain ⟨rfl,rfl⟩:=fK;refine ⟨je,s,[pa],by rw [← jB];rfl,rfl,hsv,rfl,?_⟩;obtain ⟨k',t',f',e',a',n',c',h1,h2,h3⟩:=fC.out.part;have h4:=congrArg (fun v:Value=>match v with|.agg xs=>xs.toList|_=>[]) h1
         simp at h4
         obtain ⟨rfl,rfl,rfl,rfl,rfl,rfl,rfl⟩:=h4;obtain ⟨g1,g2⟩:=h3 pa oa rfl;have w1:=g2.later (W':=WF) (R':=fun g=>w.heap.size<g∧g≠q) (fun g' hg' hl=>(AR.far g' (by have:=oq.out.size;omega) hg'.2 (by omega)).trans (oq.out.block g' hl (by omega))) (fun g' hg'=>hg')
         show aP WF _ _ (([.string k,.string t,.int .i64 f,.int .i64 e,.slice sl sn sc]:List Value)++[])
         rw [jE g1]
         exact ⟨_,_,rfl,w1,rfl⟩
       have hmv:Mv W1.heap.size d W1 WF:=fC.out.mv.trans ((oq.out.mono fC.out.mv.size).trans (AR.mv _ Qi.out.2.1));have oJ:Hid (uT d L lv i fr O w W1 n q true (nm.next fun s j=>part L je s fr [pa] j) ⟨#[102,105,101,108,100]⟩ sv fr ez (some ⟨w6.heap.size,0,none⟩) 1 1 m' WF):=hid ⟨by rw [q8.out];rfl,by rw [hout2.1,hout2.2];exact AR.rd,hmv,AR.box,hpv,by rw [hout2.1];exact Ie.out.le,fun _=>by rw [hout2.1];have:=Ie.out.ge;omega,fun _=>by rw [hout2.1];have:=Ie.out.ge;omega⟩;have sU:Hid (atR d WF=nm.at):=hid AR.rd.at;clear c5 wT Ug uz AR hout2 hpv hmv l0 l1 l2 l3 l4
       go_wp2_with fail
       go_roundw
       case rel=>exact ⟨true,_,_,_,_,_,_,_,_,m',rfl,oJ⟩
       case measure =>
        rw [sU.out,HAT.out];have:=Ie.out.ge
        show (L.length+1 - nm.at)*2+1<(L.length+1 - oa)*2+1
        omega
     rw [fu] at c2
     have hox:O=o:=by
      rw [fC.out.out,au rfl]
      cases o with
      | ok a j=>cases fu
      | bad j=>rfl
    rotate_left
    all_goals
     have iZ:wr.heap[w.heap.size]?=_:=(fC.out.mv.block w.heap.size HZ1.out (by omega)).trans jC.out;obtain ⟨⟨p0,p1,p2,p3,p4⟩,-⟩:=aF fC.out.box;obtain ⟨⟨r0,r1,r2,r3,r4⟩,gz⟩:=aF iZ;have g0:=gz 0;have g1:=gz 1;have g2:=gz 2;have g3:=gz 3;have g4:=gz 4;have pY:=hid iZ;have HOX:=hid hox;clear gz iZ hox
     go_wp2_with fail
     have hp:=dR (a':=.string k) (b':=.string t) (c':=.int .i64 f) (d':=.int .i64 e) (e':=.slice sl sn sc) pY.out;refine aA (v:=.agg #[.string k,.string t,.int .i64 f,.int .i64 e,.slice sl sn sc]) (aQ rfl _ _ w.heap.size 49 #[.string k,.string t,.int .i64 f,.int .i64 e,.slice sl sn sc] (0,0) _ (by rfl) hp Tryz.underlying49 rfl (by kernel_rfl)) rfl ?_;rw [← HQ.out,HOX.out]
     exact dM hd (dN.out.trans (fC.out.mv.mono dN.out.size)) fC.out.rd rfl rfl (fC.out.part.later (fun g _ _=>rfl) (fun g hg=>hg.1)) ⟨ae _,ae _⟩
theorem AU:(Tryz.prog.info? 49).map (fun i=>(i.zero,i.size,i.bytes))=some (some (.agg #[.string ⟨#[]⟩,.string ⟨#[]⟩,.int .i64 0,.int .i64 0,.slice none 0 0]),5,72):=by kernel_rfl
theorem nY {o:Option TypeInfo} {z:Option Value} {a b:Nat} (h:o.map (fun i=>(i.zero,i.size,i.bytes))=some (z,a,b)):∃ i,o=some i∧i.zero=z∧i.size=a∧i.bytes=b:=by
 cases o with
 | none=>cases h
 | some i =>
  simp only [Option.map_some,bS,Prod.mk.injEq] at h
  exact ⟨i,rfl,h⟩
def vg:Nat→List Value→Prop
 | 0,xs=>xs=[]
 | n+1,xs=>∃ ys k t f e a m c,vg n ys∧xs=ys++[.string k,.string t,.int .i64 f,.int .i64 e,.slice a m c]
theorem F3 {k t:ByteArray} {f e:Int} {a:Option Addr} {m c:Nat}:vg 1 [.string k,.string t,.int .i64 f,.int .i64 e,.slice a m c]:=⟨[],k,t,f,e,a,m,c,rfl,rfl⟩
theorem PS {k t k' t':ByteArray} {f e f' e':Int} {a a':Option Addr} {m c m' c':Nat}:vg 2 [.string k,.string t,.int .i64 f,.int .i64 e,.slice a m c,.string k',.string t',.int .i64 f',.int .i64 e',.slice a' m' c']:=⟨_,k',t',f',e',a',m',c',F3,rfl⟩
theorem vg.length:∀ {n:Nat} {xs:List Value},vg n xs→xs.length=n*5
 | 0,_,h=>by rw [show _=[] from h];rfl
 | n+1,xs,h=>by
  obtain ⟨ys,k,t,f,e,a,m,c,h1,rfl⟩:=h;have:=h1.length
  simp [this];omega
theorem vg.first:∀ {n:Nat} {xs:List Value},vg (n+1) xs→∃ f,xs[2]?=some (.int .i64 f)
 | 0,_,h=>by
  obtain ⟨ys,k,t,f,e,a,m,c,h1,rfl⟩:=h;rw [show ys=[] from h1]
  exact ⟨f,rfl⟩
 | n+1,_,h=>by
  obtain ⟨ys,k,t,f,e,a,m,c,h1,rfl⟩:=h;obtain ⟨g,hg⟩:=h1.first;refine ⟨g,?_⟩;rw [bu (by have:=h1.length;omega)]
  exact hg
theorem vg.last {n:Nat} {xs:List Value} (h:vg (n+1) xs):∃ e,xs[n*5+3]?=some (.int .i64 e):=by
 obtain ⟨ys,k,t,f,e,a,m,c,h1,rfl⟩:=h;refine ⟨e,?_⟩;rw [aI (by have:=h1.length;omega),h1.length,Nat.add_sub_cancel_left]
 rfl
structure dX (B:Nat) (o:Out (List Pt)) (v:Value) (n:Nat) (xs:List Value) (W:World):Prop where
 own:W.ownsRow B 49 5 v n xs
 Ec:vg n xs
 parts:∀ l j,o=.ok l j→l.length=n∧aP W (fun g=>B≤g∧g<W.heap.size∧v.ownBlock≠some g) l xs
theorem dX.nil (B:Nat) (j:Nat) (W:World):dX B (.ok [] j) (.slice none 0 0) 0 [] W :=
 ⟨dB _ _ _ _,rfl,fun l j h=>by cases h;exact ⟨rfl,rfl⟩⟩
theorem dX.out {B:Nat} {o o':Out (List Pt)} {v:Value} {n:Nat} {xs:List Value} {W:World} (h:dX B o v n xs W) (ho:∀ l j,o'=.ok l j→∃ j',o=.ok l j'):dX B o' v n xs W :=
 ⟨h.own,h.Ec,fun l j hl=>by obtain ⟨j',h'⟩:=ho l j hl;exact h.parts l j' h'⟩
theorem dX.mv {B d:Nat} {o:Out (List Pt)} {v:Value} {n:Nat} {xs:List Value} {W W':World} (h:dX B o v n xs W) (hm:Mv W.heap.size d W W') (hd:d<B):dX B o v n xs W':=by
 refine ⟨⟨h.own.1,?_⟩,h.Ec,fun l j hl=>⟨(h.parts l j hl).1,aP.later (fun g hg hgl=>hm.block g hgl (by omega)) (fun g hg=>⟨hg.1,aC hg.2.1 hm.size,hg.2.2⟩) _ _ (h.parts l j hl).2⟩⟩
 rcases h.own.2 with h1|⟨g,cap,cur,rfl,h2,h3,h4⟩
 ·exact .inl h1
 ·exact .inr ⟨g,cap,cur,rfl,h2,(hm.block g (af.1 h3).1 (by omega)).trans h3,h4⟩
theorem dX.form {B:Nat} {o:Out (List Pt)} {v:Value} {n:Nat} {xs:List Value} {W:World} (h:dX B o v n xs W):∃ a c,v=.slice a n c:=by
 rcases h.own.2 with ⟨h1,h2⟩|⟨g,cap,cur,h1,_⟩
 ·exact ⟨none,0,by rw [h1,h2]⟩
 ·exact ⟨_,cap,h1⟩
theorem dX.snoc {B C:Nat} {o o':Out (List Pt)} {ob:Out Pt} {v v':Value} {n m c:Nat} {xs:List Value} {k t:ByteArray} {f e:Int} {a:Option Addr} {W5 W6 X Y:World} (h:dX B o v n xs X)
  (h5:dX B o v n xs W5) (hC:W5.heap.size≤C) (hB:B≤C)
  (hv:∀ p j,ob=.ok p j→(.agg #[.string k,.string t,.int .i64 f,.int .i64 e,.slice a m c]:Value)=.agg (five p (.slice a m c)).toArray∧aU W6 (fun g=>C≤g) p (.slice a m c)) (hX:Below W6.heap.size W6 X)
  (bP:Y.ownsRow B 49 5 v' (n+1) (xs++[.string k,.string t,.int .i64 f,.int .i64 e,.slice a m c])) (aN:X.grownBy Y v.ownBlock) (hrow:v'.ownBlock=v.ownBlock∨v'.ownBlock=some X.heap.size)
  (ho:∀ l j,o'=.ok l j→∃ l0 j0 p jp,o=.ok l0 j0∧ob=.ok p jp∧l=l0++[p]):dX B o' v' (n+1) (xs++[.string k,.string t,.int .i64 f,.int .i64 e,.slice a m c]) Y:=by
 refine ⟨bP,⟨xs,k,t,f,e,a,m,c,h.Ec,rfl⟩,fun l j hl=>?_⟩;obtain ⟨l0,j0,p,jp,h1,h2,rfl⟩:=ho l j hl;obtain ⟨e1,e2⟩:=h.parts l0 j0 h1;obtain ⟨e3,e4⟩:=hv p jp h2;refine ⟨by simp [e1],?_⟩;rw [jE e3]
 have hne:∀ g,g<X.heap.size→v.ownBlock≠some g→v'.ownBlock≠some g:=fun g hg hn=>by
  rcases hrow with hr|hr
  ·rw [hr];exact hn
  ·rw [hr];intro h';injection h' with h';omega
 refine aP.snoc (aP.later (fun g hg hgl=>aN.block g hgl (fun h'=>hg.2.2 h'.symm)) (fun g hg=>⟨hg.1,aC hg.2.1 aN.size,hne g hg.2.1 hg.2.2⟩) _ _ e2) ?_
 have hvn:∀ g,C≤g→v.ownBlock≠some g:=fun g hg h'=>by have:=(h5.own.lt g h').2;omega
 have hxs:=hX.size;refine ((aU.live _ _ e4).later (W':=X) (R':=fun g=>C≤g∧g<X.heap.size) (fun g hg hgl=>hX.block g hgl) (fun g hg=>⟨hg.1,by omega⟩)).later (fun g hg hgl=>aN.block g hgl (fun h'=>hvn g hg.1 h'.symm)) (fun g hg=>⟨by omega,aC hg.2 aN.size,hne g hg.2 (hvn g hg.1)⟩)
theorem nO {B:Nat} {o:Out (List Pt)} {v:Value} {n:Nat} {xs:List Value} {W:World} {R:Nat→Prop} {O:Out Pt} {kv tv:ByteArray} {F E:Int} (h:dX B o v n xs W) (hR:∀ g,B≤g→R g) (hn:n≤1000000)
  (hO:∀ p j,O=.ok p j→∃ K T ks j',p=.mk K T F E ks∧aX K=kv∧aX T=tv∧o=.ok ks j') :
  qp W R O (.agg #[.string kv,.string tv,.int .i64 F,.int .i64 E,v]):=by
 obtain ⟨a,c,hv⟩:=h.form;subst hv;refine ⟨_,_,_,_,_,_,_,rfl,hn,?_⟩;intro p j fK;obtain ⟨K,T,ks,j',rfl,rfl,rfl,h5⟩:=hO p j fK;obtain ⟨e1,e2⟩:=h.parts ks j' h5;refine ⟨rfl,?_⟩
 rcases h.own.2 with ⟨h1,h2⟩|⟨g,cap,cur,h1,h2,h3,h4,_,_,h6⟩
 ·cases h1
  have hk:ks=[]:=eF (by omega);subst hk
  exact ⟨_,_,by rw [dQ,← h2],by omega,.inl rfl⟩
 ·cases h1
  refine ⟨_,_,by rw [e1],by omega,.inr ⟨g,0,xs,rfl,hR g h2,fun j u hj=>?_,aP.later (fun _ _ _=>rfl) (fun g hg=>hR g hg.1) _ _ e2⟩⟩
  unfold World.cell?
  rw [h3];rw [← h6,List.getElem?_take] at hj
  split at hj
  ·simpa using hj
  ·cases hj
theorem qy {k t:ByteArray} {f e:Int} {a:Option Addr} {n c:Nat}:∀ u∈([.string k,.string t,.int .i64 f,.int .i64 e,.slice a n c]:List Value),u.oneCell'=true:=by
 intro u hu;simp only [bB,ed,or_false] at hu
 rcases hu with rfl|rfl|rfl|rfl|rfl <;> rfl
theorem qz {W:World} {g:Nat} {cs:Array Value} {t:TypeId} (h:W.heap[g]?=some (.cells cs t (0,0))):∀ j u,cs.toList[j]?=some u→W.cell? ((⟨g,0,none⟩:Addr).add j)=some u:=fun j u hj=>by
 rw [Addr.add_lit,bA]
 unfold World.cell?
 rw [h]
 simpa using hj
def nZ (d:Nat) (w:World):Nat:=match w.cell? ⟨d,2,none⟩ with
 | some (.bool false)=>1
 | _=>0
theorem Rd.good {d:Nat} {lv:Value} {i:Nat} {b:Bool} {w:World} (h:Rd d lv i b w):nZ d w=if b then 0 else 1:=by unfold nZ;rw [h.c2];cases b <;> rfl
structure jQ (d:Nat) (L:List bn) (lv:Value) (W1:World) (OL:Out (List Pt)) (step:Nat→Nat→List Pt→Out (List Pt)) (lo mx:Nat) (fin:Bool) (o:Out (List Pt)) (v:Value) (n:Nat) (xs:List Value) (m:Nat) (W:World):Prop where
 out:OL=if fin then o else o.next fun l j=>step m j l
 rd:Rd d lv o.at o.az W
 mv:Mv W1.heap.size d W1 W
 list:dX W1.heap.size o v n xs W
 le:o.at≤L.length
 lo:lo≤o.at
 cnt:n+(if o.az then 0 else 1)≤o.at
 fuel:fin=false→o.az=false→8*(L.length - o.at)+5≤m∧m≤mx
theorem jl {α:Type} {b:Bool} {i:Nat} {o:Out α} (h:(start b i o).az=false):b=false∧start b i o=o:=by
 cases b
 ·exact ⟨rfl,rfl⟩
 ·cases h
theorem yB {α:Type} {o:Out α} (h:o.az=false):∃ a,o=.ok a o.at:=by
 cases o with
 | ok a j=>exact ⟨a,rfl⟩
 | bad j=>cases h
theorem NL {om:Out Unit} {L:List bn} {K T:By} {F:Int} {ks:List Pt} {p:Pt} {j:Nat} (h:(om.next fun _ q=>part L K T F ks q)=.ok p j):om.az=false∧p=.mk K T F (jZ L om.at) ks:=by
 cases om with
 | bad j=>cases h
 | ok a k =>
  simp only [Out.next,part,Out.ok.injEq] at h
  exact ⟨rfl,h.1.symm⟩
theorem F4 {OL:Out (List Pt)} {L:List bn} {x K T:By} {F:Int} {om:Out Unit} (mH:start OL.az OL.at (bJ L x OL.at)=om) :
  (OL.next fun l k=>(bJ L x k).next fun _ m=>part L K T F l m).at=om.at∧(OL.next fun l k=>(bJ L x k).next fun _ m=>part L K T F l m).az=om.az:=by
 subst mH
 cases OL with
 | bad j=>exact ⟨rfl,rfl⟩
 | ok l k =>
  show ((bJ L x k).next fun _ m=>part L K T F l m).at=(bJ L x k).at∧((bJ L x k).next fun _ m=>part L K T F l m).az=(bJ L x k).az
  cases bJ L x k <;> exact ⟨rfl,rfl⟩
theorem zJ {OL:Out (List Pt)} {L:List bn} {x K T:By} {F:Int} {om:Out Unit} (mH:start OL.az OL.at (bJ L x OL.at)=om) {p:Pt} {j:Nat} (h:(OL.next fun l k=>(bJ L x k).next fun _ m=>part L K T F l m)=.ok p j) :
  ∃ ks j',p=.mk K T F (jZ L om.at) ks∧OL=.ok ks j':=by
 subst mH
 cases OL with
 | bad j=>cases h
 | ok l k =>
  have h:((bJ L x k).next fun _ m=>part L K T F l m)=.ok p j:=h
  cases hm:bJ L x k with
  | bad q=>rw [hm] at h;cases h
  | ok u q =>
   rw [hm] at h;simp only [Out.next,part,Out.ok.injEq] at h;refine ⟨l,k,?_,rfl⟩;rw [← h.1]
   show _=Pt.mk K T F (jZ L (bJ L x k).at) l
   rw [hm];rfl
end T
end Go.Proofs.YtojoahlpgmnbnaaGreatDoor
