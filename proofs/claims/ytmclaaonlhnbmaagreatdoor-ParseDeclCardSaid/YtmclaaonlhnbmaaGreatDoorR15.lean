/- What the claim needs of the texts TPrefix, TList. -/
import Derived.Test.YtmclaaonlhnbmaaGreatDoorROp
import Derived.Test.YtmclaaonlhnbmaaGreatDoorR14
import Derived.Test.YtmclaaonlhnbmaaGreatDoorR13
import Derived.Laws.AppendOwn
import Derived.Laws.OwnMore
import Derived.OwnWalk
import Derived.Maps.AppendAt
namespace Go.Proofs.YtmclaaonlhnbmaaGreatDoor.T
open Go.RowKit
open Go.Lib hiding intOf
open U S L
def mkB (j:Nat):UInt8:=match j with
 | 0=>38
 | 1=>42
 | 2=>45
 | _=>33
theorem prefix_at {L:List TokP} {m i j:Nat} (hj:j<4) (h0:∀ k,k<j→isT L [mkB k] i=false) (h:isT L [mkB j] i=true):prefixT L (m+1) i=(prefixT L m (i+1)).next fun e k=>part L kUnary [mkB j] (fromT L i) [e] k:=by
 rw [prefixT_succ]
 rcases j with _|_|_|_|j
 ·rw [if_pos (show isT L [38] i=true from h)];rfl
 ·rw [if_neg (by rw [show isT L [38] i=false from h0 0 (by omega)];decide),if_pos (show isT L [42] i=true from h)];rfl
 ·rw [if_neg (by rw [show isT L [38] i=false from h0 0 (by omega)];decide),if_neg (by rw [show isT L [42] i=false from h0 1 (by omega)];decide),if_pos (show isT L [45] i=true from h)];rfl
 ·rw [if_neg (by rw [show isT L [38] i=false from h0 0 (by omega)];decide),if_neg (by rw [show isT L [42] i=false from h0 1 (by omega)];decide),if_neg (by rw [show isT L [45] i=false from h0 2 (by omega)];decide),if_pos (show isT L [33] i=true from h)];rfl
 ·omega
theorem prefix_op {L:List TokP} {m i:Nat} (h0:∀ k,k<4→isT L [mkB k] i=false):prefixT L (m+1) i=(operand L m i).next fun a j=>tails L m (fromT L i) a j:=by
 rw [prefixT_succ,if_neg (by rw [show isT L [38] i=false from h0 0 (by omega)];decide),if_neg (by rw [show isT L [42] i=false from h0 1 (by omega)];decide),if_neg (by rw [show isT L [45] i=false from h0 2 (by omega)];decide),if_neg (by rw [show isT L [33] i=false from h0 3 (by omega)];decide)]
theorem idx_str {o:Oper} {a:Act} (x y g off n i c:Nat) (W:World) (ho:o.op=.indexAddr 32 (.tmp x) (.tmp y)) (h1:a.eval (.tmp x)=.slice (some ⟨g,off,none⟩) n c) (h2:a.eval (.tmp y)=.int .i64 i) (hin:i<n):(execOp a.eval o).run Tryz.prog W=.ok (.value (.pointer (some ⟨g,off+i,none⟩))) W:=by
 have hm:(0:Int)≤(i:Int):=by omega
 have hm2:(i:Int)<(n:Int):=by omega
 have hr:(Instr.indexAt 32 (.slice (some ⟨g,off,none⟩) n c) (.int .i64 i)).run Tryz.prog W=.ok (.pointer (some ⟨g,off+i,none⟩)) W:=by
  simp [go_sem]
  intro h
  omega
 unfold execOp
 rw [ho];simp only [h1,h2,Sem.run_bind,hr,Result.andThen_ok,Sem.run_pure]
theorem marks_at {W:World} {g j:Nat} {t:TypeId} (h:W.heap[g]?=some (.cells #[.string ⟨#[38]⟩,.string ⟨#[42]⟩,.string ⟨#[45]⟩,.string ⟨#[33]⟩] t (0,0))) (hj:j<4):W.cell? ⟨g,j,none⟩=some (.string (bstr [mkB j])):=by
 unfold World.cell?
 rw [h]
 rcases j with _|_|_|_|j
 ·rfl
 ·rfl
 ·rfl
 ·rfl
 ·omega
theorem out_row {o:Out By} {L:List TokP} {K:By} {F:Int} (ks:List Pt):(o.next fun s j=>part L K s F ks j).at=o.at∧(o.next fun s j=>part L K s F ks j).isBad=o.isBad:=by cases o <;> exact ⟨rfl,rfl⟩
theorem out_unit {o:Out Unit} {L:List TokP} {K T:By} {F:Int} (ks:List Pt):(o.next fun _ j=>part L K T F ks j).at=o.at∧(o.next fun _ j=>part L K T F ks j).isBad=o.isBad:=by cases o <;> exact ⟨rfl,rfl⟩
structure Boxed (d:Nat) (lv:Value) (i:Nat) (b:Bool) (q:Nat) (cs new:Array Value) (WA WF:World):Prop where
 rd:Rd d lv i b WF
 box:WF.heap[q]?=some (.cells new 25 (0,0))
 row:WF.heap[WA.heap.size]?=some (.cells cs 25 (0,0))
 far:∀ g,g<WA.heap.size→g≠q→g≠d→WF.heap[g]?=WA.heap[g]?
 mv:∀ B,B≤q→Mv B d WA WF
theorem boxed {d i q:Nat} {lv:Value} {b:Bool} {cs:Array Value} {x0 x1 x2 x3 x4 y0 y1 y2 y3 y4:Value} {WA Z wP:World} (hZ:Below WA.heap.size WA Z) (hrow:Z.heap[WA.heap.size]?=some (.cells cs 25 (0,0))) (hw:Went d lv i b Z wP) (hq:q<WA.heap.size) (hd:d<WA.heap.size) (hqd:q≠d) (hbox:WA.heap[q]?=some (.cells #[x0,x1,x2,x3,x4] 25 (0,0))) :
  Boxed d lv i b q cs #[y0,y1,y2,y3,y4] WA (((((wP.setCell ⟨q,0,none⟩ y0).setCell ⟨q,1,none⟩ y1).setCell ⟨q,2,none⟩ y2).setCell ⟨q,3,none⟩ y3).setCell ⟨q,4,none⟩ y4):=by
 have far:∀ g,g≠q→(((((wP.setCell ⟨q,0,none⟩ y0).setCell ⟨q,1,none⟩ y1).setCell ⟨q,2,none⟩ y2).setCell ⟨q,3,none⟩ y3).setCell ⟨q,4,none⟩ y4).heap[g]?=wP.heap[g]?:=by
  intro g hg
  repeat rw [Below.heap_setCell _ _ _ _ (by show g≠q;omega)]
 have hzr:=(Array.getElem?_eq_some_iff.1 hrow).1;have hPq:wP.heap[q]?=_:=((hw.2.block q (by omega) hqd).trans (hZ.block q hq)).trans hbox;refine ⟨(far d (fun h=>hqd h.symm)).trans hw.1,set_row5 hPq,(far _ (by omega)).trans ((hw.2.block _ hzr (by omega)).trans hrow),fun g h1 h2 h3=>(far g h2).trans ((hw.2.block g (by omega) h3).trans (hZ.block g h1)),fun B hB=>?_⟩
 exact ((Mv.of_below hZ).mono (by omega)).trans ((hw.2.mono (by omega)).trans (five_stores hB))
theorem put_five {W:World} {q:Nat} {a b c e f a' b' c' e' f':Value} {t:TypeId} (h:W.heap[q]?=some (.cells #[a,b,c,e,f] t (0,0))) :
  ∃ W',((((W.setCell ⟨q,0,none⟩ a').setCell ⟨q,1,none⟩ b').setCell ⟨q,2,none⟩ c').setCell ⟨q,3,none⟩ e').setCell ⟨q,4,none⟩ f'=W'∧W'.heap[q]?=some (.cells #[a',b',c',e',f'] t (0,0))∧(∀ g,g≠q→W'.heap[g]?=W.heap[g]?)∧W'.heap.size=W.heap.size:=by
 refine ⟨_,rfl,set_row5 h,fun g hg=>?_,by simp⟩
 repeat rw [Below.heap_setCell _ _ _ _ (by show g≠q;omega)]
structure TailInv (d:Nat) (L:List TokP) (lv:Value) (i:Nat) (fr:Int) (O:Out Pt) (w W1:World) (n q:Nat) (more:Bool) (o:Out Pt) (k t:ByteArray) (f e:Int) (sl:Option Addr) (sn sc m:Nat) (W:World):Prop where
 out:O=if more then o.next fun a j=>tails L m fr a j else o
 rd:Rd d lv o.at o.isBad W
 mv:Mv W1.heap.size d W1 W
 box:W.heap[q]?=some (.cells #[.string k,.string t,.int .i64 f,.int .i64 e,.slice sl sn sc] 25 (0,0))
 part:PartV W (fun g=>w.heap.size<g∧g≠q) o (.agg #[.string k,.string t,.int .i64 f,.int .i64 e,.slice sl sn sc])
 le:o.at≤L.length
 gt:o.isBad=false→i<o.at
 fuel:o.isBad=false→m<n∧8*(L.length - o.at)+1≤m
theorem TailInv.moved {d:Nat} {L:List TokP} {lv:Value} {i:Nat} {fr:Int} {O:Out Pt} {w W1:World} {n q:Nat} {more more':Bool} {o:Out Pt} {k t:ByteArray} {f e:Int} {sl:Option Addr} {sn sc m:Nat} {W W':World}
  (h:TailInv d L lv i fr O w W1 n q more o k t f e sl sn sc m W) (hm:Mv W.heap.size d W W') (hr:Rd d lv o.at o.isBad W') (hd:d≤w.heap.size) (hqd:q≠d) (ho:O=if more' then o.next fun a j=>tails L m fr a j else o):TailInv d L lv i fr O w W1 n q more' o k t f e sl sn sc m W' :=
 ⟨ho,hr,h.mv.trans (hm.mono h.mv.size),(hm.block q (Array.getElem?_eq_some_iff.1 h.box).1 hqd).trans h.box,h.part.later (fun g hg hl=>hm.block g hl (by omega)) (fun _ hg=>hg),h.le,h.gt,h.fuel⟩
theorem out_pt {o:Out Pt} (h:o.isBad=false):o=.ok o.pt o.at:=by cases o with
 | ok a j=>rfl
 | bad j=>cases h
set_option maxHeartbeats 16000000 in
set_option maxRecDepth 20000 in
theorem prefix_step (d:Nat) (L:List TokP) (lv:Value) (hL:L.length≤1000000) (n:Nat) (ihP:∀ m,n=m+1→PrefixAt d L lv m) (ihO:∀ m,n=m+1∨m=0→OperandAt d L lv m) (ih:∀ m,m<n→ExprAt d L lv m):PrefixAt d L lv n:=by
 intro i b w hR hT hi hn;have hd:=hR.lt;obtain ⟨W1,hW1⟩:∃ W1,w.alloc zeroP=W1:=⟨_,rfl⟩
 have hb1:Below w.heap.size w W1:=by rw [← hW1];exact (Below.refl _ w).alloc (Nat.le_refl _) _
 have HM1:=hid (Mv.of_below (d:=d) hb1)
 have hq1:W1.heap[w.heap.size]?=some (.cells #[.string ⟨#[]⟩,.string ⟨#[]⟩,.int .i64 0,.int .i64 0,.slice none 0 0] 25 (0,0)):=by rw [← hW1];exact heap_alloc_new w _
 have hR1:Rd d lv i b W1:=hR.below hb1;have hT1:=hT.mv (Mv.of_below hb1) (Nat.le_refl _);have c1:=from_any d L lv i b W1 hR1 hT1;obtain ⟨fr,hfr⟩:∃ fr,fromT L i=fr:=⟨_,rfl⟩;rw [hfr] at c1;have HFR:=hid hfr;have HW1:=hid hW1;have HQ1:=hid hq1;have HR1:=hid hR1;have HT1:=hid hT1;have HN:=hid hn;have HP:=hid ihP;have HOP:=hid ihO;have HI:=hid ih;obtain ⟨O,hO⟩:∃ O,start b i (prefixT L n i)=O:=⟨_,rfl⟩;have HO:=hid hO;rw [hO];obtain ⟨Q,hQ⟩:∃ Q,Reads d lv O w=Q:=⟨_,rfl⟩;have HQ:=hid hQ;rw [hQ];clear hW1 hq1 hb1 hR1 hT1 hfr hn ihP ihO ih hO hQ hR hT
 go_enter Tryz.func156,Tryz.ntmps156
 go_wp2_with fail
 rw [HW1.out];refine c1.mono ?_;intro x w2 h2;obtain ⟨rfl,hw2⟩:=h2.went HR1.out;have HM2:=hid hw2.2;have HR2:=hid hw2.1;clear c1 h2 hw2
 go_upto_region 3 with fail
 obtain ⟨mk,hmk⟩:∃ q,w2.heap.size=q:=⟨_,rfl⟩;obtain ⟨W3,hW3⟩:∃ W,w2.alloc (.cells #[.string ⟨#[38]⟩,.string ⟨#[42]⟩,.string ⟨#[45]⟩,.string ⟨#[33]⟩] 9)=W:=⟨_,rfl⟩
 have hb3:Below w2.heap.size w2 W3:=by rw [← hW3];exact (Below.refl _ w2).alloc (Nat.le_refl _) _
 have hm3:W3.heap[mk]?=some (.cells #[.string ⟨#[38]⟩,.string ⟨#[42]⟩,.string ⟨#[45]⟩,.string ⟨#[33]⟩] 9 (0,0)):=by rw [← hW3,← hmk];exact heap_alloc_new w2 _
 rw [hW3,hmk];have HM3:=hid (HM2.out.trans ((Mv.of_below (d:=d) hb3).mono HM2.out.size));have HR3:=hid (HR2.out.below hb3);have HMK:=hid hm3;have HZ1:=hid (Array.getElem?_eq_some_iff.1 HQ1.out).1;have HZ3:Hid (W1.heap.size≤mk∧mk<W3.heap.size):=hid ⟨by rw [← hmk];exact HM2.out.size,(Array.getElem?_eq_some_iff.1 hm3).1⟩;clear hW3 hb3 hm3 hmk HM2 HR2
 go_wp2_with fail
 go_loopw [5] (fun iv wr=>∃ j:Nat,iv=.int .i64 j∧j≤4∧Hid (∀ k,k<j→(!b&&isT L [mkB k] i)=false)∧Hid (Rd d lv i b wr)∧Hid (Mv W3.heap.size d W3 wr)) (fun iv _=>4 - (Go.RowKit.intOf iv).toNat)
 case atStart=>exact ⟨0,rfl,Nat.zero_le _,hid (fun k hk=>absurd hk (Nat.not_lt_zero _)),HR3,hid (Mv.refl _ _ _)⟩
 case round =>
  obtain ⟨j,rfl,hj,HA,HR,HM⟩:=hrel;have HTr:=hid (HT1.out.mv (HM3.out.trans (HM.out.mono HM3.out.size)) (Nat.le_refl _));have HMKr:=hid ((HM.out.block mk HZ3.out.2 (by have:=HZ3.out;have:=HM1.out.size;omega)).trans HMK.out)
  by_cases h4:j<4
  ·have hm:=marks_at HMKr.out h4
   have c2:=take_any d L lv i b [mkB j] wr HR.out HTr.out (by omega);obtain ⟨ms,hms⟩:∃ u,bstr [mkB j]=u:=⟨_,rfl⟩;rw [hms] at hm c2;obtain ⟨R1,hR1⟩:∃ R1,(!b&&isT L [mkB j] i)=R1:=⟨_,rfl⟩;rw [hR1] at c2;have HA1:=hid hR1;have HMS:=hid hms;clear hR1 hms
   cases R1
   ·go_wp2_with fail
    refine c2.mono ?_;rintro x w5 ⟨rfl,hw5⟩;have HW5:Hid (Went d lv i b wr w5):=hid hw5;clear c2 hw5 hm
    go_wp2_with fail
    go_roundw
    case rel=>exact ⟨j+1,by go_num,by omega,hid (fun k hk=>if h:k=j then h ▸ HA1.out else HA.out k (by omega)),hid HW5.out.1,hid (HM.out.trans (HW5.out.2.mono HM.out.size))⟩
    case measure=>simp [Go.RowKit.intOf];omega
   ·have hb:b=false∧isT L [mkB j] i=true:=by simpa using HA1.out
    obtain ⟨rfl,his⟩:=hb;have hil:i<L.length:=isT_lt his;obtain ⟨m,rfl⟩:∃ m,n=m+1:=⟨n - 1,by have:=HN.out (by trivial);omega⟩;obtain ⟨o,ho⟩:∃ o,prefixT L m (i+1)=o:=⟨_,rfl⟩
    have HOO:Hid (O=o.next fun x k=>part L kUnary [mkB j] fr [x] k):=hid (by
     rw [← HO.out,← HFR.out,← ho]
     exact prefix_at h4 (fun k hk=>by simpa using HA.out k hk) his)
    have HFW:Hid (o.at≤L.length):=hid (by rw [← ho];exact ((all_fwd m).prefixT (i+1) hil).le);have HOE:=hid ho;clear ho his
    go_wp2_with fail
    refine c2.mono ?_;rintro x w5 ⟨rfl,hw5⟩;have hw5:Went d lv (i+1) false wr w5:=hw5;have HM5:=hid (HM.out.trans (hw5.2.mono HM.out.size));have c3:=HP.out m rfl (i+1) false w5 hw5.1 (HTr.out.mv hw5.2 (Nat.le_refl _)) (by omega) (fun _=>by have:=HN.out (by trivial);omega);rw [start_false,HOE.out] at c3;clear c2 hw5 hm
    go_wp2_with fail
    refine c3.mono ?_;rintro x w6 ⟨v,rfl,⟨k,t,f,e,sl,sn,sc,rfl,hnn,hv⟩,hw6⟩;have HV:=hid hv;have HW6:=hid hw6;clear c3 hv hw6
    go_upto_region 9 with fail
    obtain ⟨q,hq⟩:∃ q,w6.heap.size=q:=⟨_,rfl⟩;obtain ⟨W7,hW7⟩:∃ W,w6.alloc (.cells #[.string k,.string t,.int .i64 f,.int .i64 e,.slice sl sn sc] 25)=W:=⟨_,rfl⟩
    have hb7:Below w6.heap.size w6 W7:=by rw [← hW7];exact (Below.refl _ w6).alloc (Nat.le_refl _) _
    have hq7:W7.heap[q]?=some (.cells #[.string k,.string t,.int .i64 f,.int .i64 e,.slice sl sn sc] 25 (0,0)):=by rw [← hW7,← hq];exact heap_alloc_new w6 _
    rw [hW7,hq];have HM6:=hid (HM5.out.trans (HW6.out.2.mono HM5.out.size));have HM7:=hid (HM6.out.trans ((Mv.of_below (d:=d) hb7).mono HM6.out.size));have HR7:=hid (HW6.out.1.below hb7);have hmk7:=(HM7.out.block mk HZ3.out.2 (by have:=HZ3.out;have:=HM1.out.size;omega)).trans HMK.out;have HQ7:=hid hq7;have HB7:=hid hb7;have hq6:=HM6.out.size;have z3:=HZ3.out;have z1:=HZ1.out
    have hmq:mk<q:=by omega
    have hqq:q<W7.heap.size:=(Array.getElem?_eq_some_iff.1 hq7).1;have HQQ:Hid (w.heap.size<mk∧mk<q∧q<W7.heap.size∧q=w6.heap.size∧W3.heap.size≤w6.heap.size∧W1.heap.size≤W3.heap.size):=hid ⟨by omega,hmq,hqq,hq.symm,hq6,HM3.out.size⟩;have hS0:W7.drew.heap[mk]?=some (.cells #[.string ⟨#[38]⟩,.string ⟨#[42]⟩,.string ⟨#[45]⟩,.string ⟨#[33]⟩] 9 (0,0))∧W7.drew.heap[q]?=some (.cells #[.string k,.string t,.int .i64 f,.int .i64 e,.slice sl sn sc] 25 (0,0)):=⟨hmk7,hq7⟩;have hRV:Rd d lv o.at o.isBad W7.drew:=HR7.out;have hMV:Mv W3.heap.size d W3 W7.drew:=HM7.out.drewN 1;have hsV:W7.drew.heap.size=W7.heap.size:=rfl
    have h67:∀ g,g<w6.heap.size→W7.drew.heap[g]?=w6.heap[g]?:=fun g hg=>hb7.block g hg
    have HV6:=hid h67;clear hW7 hb7 hq7 hmk7 hq hq6 z3 z1 hmq hqq h67;refine wp_region_held_drew (S:=fun X=>X.heap[mk]?=some (.cells #[.string ⟨#[38]⟩,.string ⟨#[42]⟩,.string ⟨#[45]⟩,.string ⟨#[33]⟩] 9 (0,0))∧X.heap[q]?=some (.cells #[.string k,.string t,.int .i64 f,.int .i64 e,.slice sl sn sc] 25 (0,0))) (by kernel_rfl) hS0 (fun hHeld=>?_);clear hS0;have HRV:=hid hRV;have HMV:=hid hMV;have HSV:=hid hsV;clear hRV hMV hsV;obtain ⟨V,hV⟩:∃ V,W7.drew=V:=⟨_,rfl⟩;rw [hV] at hHeld HRV HMV HSV HV6 ⊢;clear hV;refine wpAnyH_take (i:=0) (oi:=({ dst:=some 32,op:=Op.move (Operand.tmp 0),type:=40,pos := "ref.go:293",after:=#[],guard:=none }:Oper)) (v:=.pointer (some ⟨d,0,none⟩)) rfl (by kernel_rfl) (by kernel_rfl) (by kernel_rfl) (fun _ _ _ h=>h) (Or.inl ⟨by rfl,fun X hX=>rfl⟩) hHeld ?_
    (try simp only [Act.put,OP.a,OP.b,OP.c])
    refine wpAnyH_take (i:=1) (oi:=({ dst:=some 33,op:=Op.move (Operand.tmp 4),type:=32,pos := "ref.go:293",after:=#[],guard:=none }:Oper)) (v:=.slice (some ⟨mk,0,none⟩) 4 4) rfl (by kernel_rfl) (by kernel_rfl) (by kernel_rfl) (fun _ _ _ h=>h) (Or.inl ⟨by rfl,fun X hX=>rfl⟩) hHeld ?_
    (try simp only [Act.put,OP.a,OP.b,OP.c])
    refine wpAnyH_take (i:=2) (oi:=({ dst:=some 34,op:=Op.move (Operand.tmp 5),type:=3,pos := "ref.go:293",after:=#[],guard:=none }:Oper)) (v:=.int .i64 j) rfl (by kernel_rfl) (by kernel_rfl) (by kernel_rfl) (fun _ _ _ h=>h) (Or.inl ⟨by rfl,fun X hX=>rfl⟩) hHeld ?_
    (try simp only [Act.put,OP.a,OP.b,OP.c])
    refine wpAnyH_take (i:=3) (oi:=({ dst:=some 35,op:=Op.indexAddr 32 (Operand.tmp 33) (Operand.tmp 34),type:=0,pos := "ref.go:293",after:=#[{ on:=1,ground:=Ground.data },{ on:=2,ground:=Ground.data }],guard:=none }:Oper)) (v:=.pointer (some ⟨mk,j,none⟩)) rfl (by kernel_rfl) (by kernel_rfl) (by kernel_rfl) (fun _ _ _ h=>h) (Or.inl ⟨by rfl,fun X hX=>(idx_str 33 34 mk 0 4 j 4 X rfl rfl rfl h4).trans (by rw [Nat.zero_add])⟩) hHeld ?_
    (try simp only [Act.put,OP.a,OP.b,OP.c])
    refine wpAnyH_take (i:=4) (oi:=({ dst:=some 36,op:=Op.load 9 (Operand.tmp 35),type:=9,pos := "ref.go:293",after:=#[{ on:=3,ground:=Ground.data }],guard:=none }:Oper)) (v:=.string ms) rfl (by kernel_rfl) (by kernel_rfl) (by kernel_rfl) (fun _ _ _ h=>h) (Or.inl ⟨by rfl,fun X hX=>by have q:=marks_at hX.1 h4;rw [HMS.out] at q;go_simp⟩) hHeld ?_
    (try simp only [Act.put,OP.a,OP.b,OP.c])
    refine wpAnyH_take (i:=5) (oi:=({ dst:=some 37,op:=Op.move (Operand.tmp 3),type:=3,pos := "ref.go:293",after:=#[],guard:=none }:Oper)) (v:=.int .i64 fr) rfl (by kernel_rfl) (by kernel_rfl) (by kernel_rfl) (fun _ _ _ h=>h) (Or.inl ⟨by rfl,fun X hX=>rfl⟩) hHeld ?_
    (try simp only [Act.put,OP.a,OP.b,OP.c])
    refine wpAnyH_take (i:=6) (oi:=({ dst:=some 38,op:=Op.load 25 (Operand.tmp 7),type:=25,pos := "ref.go:293",after:=#[],guard:=none }:Oper)) (v:=.agg #[.string k,.string t,.int .i64 f,.int .i64 e,.slice sl sn sc]) rfl (by kernel_rfl) (by kernel_rfl) (by kernel_rfl) (fun _ _ _ h=>h) (Or.inl ⟨by rfl,fun X hX=>by obtain ⟨q0,q1,q2,q3,q4⟩:=(five_cells hX.2).1;go_simp⟩) hHeld ?_
    (try simp only [Act.put,OP.a,OP.b,OP.c])
    refine wpAnyH_ready (rs:=[7]) (by kernel_rfl) (by simp) ?_;refine (AllReadyH.cons (o:=({ dst:=some 39,op:=Op.buildSlice 23 1 #[(0,Operand.tmp 38)],type:=23,pos := "ref.go:293",after:=#[{ on:=6,ground:=Ground.data }],guard:=none }:Oper)) rfl (fun K hK=>?_) AllReadyH.nil);refine wanted_step (by kernel_rfl) ?_
    go_simp
    obtain ⟨z,hz⟩:∃ z,V.heap.size=z:=⟨_,rfl⟩;obtain ⟨Z,hZ⟩:∃ Z,V.alloc (.cells #[.string k,.string t,.int .i64 f,.int .i64 e,.slice sl sn sc] 25)=Z:=⟨_,rfl⟩
    have hbz:Below V.heap.size V Z:=by rw [← hZ];exact (Below.refl _ V).alloc (Nat.le_refl _) _
    have hrz:Z.heap[z]?=some (.cells #[.string k,.string t,.int .i64 f,.int .i64 e,.slice sl sn sc] 25 (0,0)):=by rw [← hZ,← hz];exact heap_alloc_new V _
    rw [hZ,hz];have hVs:=HSV.out;have hQQ:=HQQ.out;have hHeldZ:Z.heap[mk]?=some (.cells #[.string ⟨#[38]⟩,.string ⟨#[42]⟩,.string ⟨#[45]⟩,.string ⟨#[33]⟩] 9 (0,0))∧Z.heap[q]?=some (.cells #[.string k,.string t,.int .i64 f,.int .i64 e,.slice sl sn sc] 25 (0,0)):=⟨(hbz.block mk (by omega)).trans hHeld.1,(hbz.block q (by omega)).trans hHeld.2⟩;have hMZ:Mv W3.heap.size d W3 Z:=HMV.out.trans ((Mv.of_below hbz).mono HMV.out.size);have c4:=part_any d L lv o.at o.isBad ⟨#[117,110,97,114,121]⟩ ms fr (some ⟨z,0,none⟩) 1 1 Z (HRV.out.below hbz) (HT1.out.mv (HM3.out.trans (hMZ.mono HM3.out.size)) (Nat.le_refl _)) HFW.out hL;obtain ⟨ez,hez⟩:∃ u,toT L o.at=u:=⟨_,rfl⟩;rw [hez] at c4;have HEZ:=hid hez;have HBZ:=hid hbz;have HRZ:=hid hrz;have HMZ:=hid hMZ;have HZE:=hid hz;clear hZ hbz hrz hMZ hez hz hQQ hVs;refine hK.out _ _ (hHeldZ) (fun hHeld2=>?_)
    (try simp only [Act.put,OP.a,OP.b,OP.c])
    clear hK K;refine wpAnyH_ready (rs:=[8]) (by kernel_rfl) (by simp) ?_;refine (AllReadyH.cons (o:=({ dst:=some 40,op:=Op.call { callee:=Callee.value (Operand.func 52),args:=#[Operand.tmp 32,Operand.const (Value.string { data:=#[117,110,97,114,121] }),Operand.tmp 36,Operand.tmp 37,Operand.tmp 39],argTypes:=#[40,9,9,3,23] },type:=25,pos := "ref.go:293",after:=#[{ on:=0,ground:=Ground.data },{ on:=4,ground:=Ground.data },{ on:=5,ground:=Ground.data },{ on:=7,ground:=Ground.data }],guard:=none }:Oper)) rfl (fun K hK=>?_) AllReadyH.nil);refine wanted_step (by kernel_rfl) ?_
    go_simp
    go_at_call 52
    refine c4.mono ?_;rintro x wP ⟨rfl,hwP⟩;have hQQ:=HQQ.out;have hVs:=HSV.out;have hHeldP:wP.heap[mk]?=some (.cells #[.string ⟨#[38]⟩,.string ⟨#[42]⟩,.string ⟨#[45]⟩,.string ⟨#[33]⟩] 9 (0,0))∧wP.heap[q]?=some (.cells #[.string k,.string t,.int .i64 f,.int .i64 e,.slice sl sn sc] 25 (0,0)):=⟨(hwP.2.block mk (by have:=(Array.getElem?_eq_some_iff.1 hHeld2.1).1;omega) (by have:=HM1.out.size;omega)).trans hHeld2.1,(hwP.2.block q (by have:=(Array.getElem?_eq_some_iff.1 hHeld2.2).1;omega) (by have:=HM1.out.size;omega)).trans hHeld2.2⟩;have HMP:=hid (HMZ.out.trans (hwP.2.mono HMZ.out.size));have HWP:=hid hwP;clear c4 hwP;dsimp only;refine hK.out _ _ (hHeldP) (fun hHeld3=>?_)
    (try simp only [Act.put,OP.a,OP.b,OP.c])
    clear hK K;have hq8:wP.heap[w.heap.size]?=_:=((HM3.out.trans (HMP.out.mono HM3.out.size)).block w.heap.size HZ1.out (by omega)).trans HQ1.out;obtain ⟨⟨r0,r1,r2,r3,r4⟩,gz⟩:=five_cells hq8;have g0:=gz 0;have g1:=gz 1;have g2:=gz 2;have g3:=gz 3;have g4:=gz 4;obtain ⟨WF,hWF,hFq,hFo,-⟩:=put_five (a':=.string ⟨#[117,110,97,114,121]⟩) (b':=.string ms) (c':=.int .i64 fr) (e':=.int .i64 ez) (f':=.slice (some ⟨z,0,none⟩) 1 1) hq8;have hHeldF:WF.heap[mk]?=some (.cells #[.string ⟨#[38]⟩,.string ⟨#[42]⟩,.string ⟨#[45]⟩,.string ⟨#[33]⟩] 9 (0,0))∧WF.heap[q]?=some (.cells #[.string k,.string t,.int .i64 f,.int .i64 e,.slice sl sn sc] 25 (0,0)):=⟨(hFo mk (by omega)).trans hHeld3.1,(hFo q (by omega)).trans hHeld3.2⟩;have HQ8:=hid hq8;have HFQ:=hid hFq;have HWF:=hid hWF;clear gz hq8 hFq hFo hQQ hVs;refine wpAnyH_ready (rs:=[9]) (by kernel_rfl) (by simp) ?_;refine (AllReadyH.cons (o:=({ dst:=none,op:=Op.store 25 (Operand.tmp 2) (Operand.tmp 40),type:=0,pos := "ref.go:293",after:=#[{ on:=8,ground:=Ground.data },{ on:=8,ground:=Ground.chain },{ on:=0,ground:=Ground.phase },{ on:=1,ground:=Ground.phase },{ on:=2,ground:=Ground.phase },{ on:=3,ground:=Ground.phase },{ on:=4,ground:=Ground.phase },{ on:=5,ground:=Ground.phase },{ on:=6,ground:=Ground.phase },{ on:=7,ground:=Ground.phase },{ on:=8,ground:=Ground.phase }],guard:=none }:Oper)) rfl (fun K hK=>?_) AllReadyH.nil);refine wanted_step (by kernel_rfl) ?_
    go_simp
    refine hK.out _ _ (hHeldF) (fun hHeld4=>?_)
    (try simp only [Act.put,OP.a,OP.b,OP.c])
    clear hK K;clear r0 r1 r2 r3 r4 g0 g1 g2 g3 g4 hWF hHeld hHeld2 hHeld3 hHeld4 hHeldZ hHeldP hHeldF;refine wpAnyH_done (by kernel_rfl) ?_ _
    go_wp2_with fail
    refine bodyPost_ret (v:=.agg #[.string ⟨#[117,110,97,114,121]⟩,.string ms,.int .i64 fr,.int .i64 ez,.slice (some ⟨z,0,none⟩) 1 1]) (results_cell_row rfl _ _ w.heap.size 25 #[.string ⟨#[117,110,97,114,121]⟩,.string ms,.int .i64 fr,.int .i64 ez,.slice (some ⟨z,0,none⟩) 1 1] (0,0) _ (by rfl) HFQ.out Tryz.underlying25 rfl (by kernel_rfl)) rfl ?_;rw [← HQ.out,HOO.out,← HWF.out];have zz:=HZE.out;have hQQ:=HQQ.out;have hVs:=HSV.out;have zq:=HM1.out.size;have zb:=HBZ.out.size;have z5:=HM5.out.size;have z3:=HZ3.out;have hz7:wP.heap[z]?=_:=(HWP.out.2.block z (Array.getElem?_eq_some_iff.1 HRZ.out).1 (by omega)).trans HRZ.out;refine reads_end hd (HM1.out.trans ((HM3.out.trans (HMP.out.mono HM3.out.size)).mono HM1.out.size)) HWP.out.1 (out_part fun x=>[x]).1 (out_part fun x=>[x]).2 ?_ ⟨Nat.le_refl _,Nat.le_refl _⟩;rw [← HMS.out]
    refine partV_one (K:=kUnary) HV.out (fun g hg hl=>?_) hz7 (fun g hg=>?_) (by omega) HEZ.out
    ·exact (HWP.out.2.block g (by omega) (by omega)).trans ((HBZ.out.block g (by omega)).trans (HV6.out g hl))
    ·omega
  ·obtain rfl:j=4:=by omega
   obtain ⟨m0,o0,ho,hOo,hfu⟩:∃ m0 o,start b i (operand L m0 i)=o∧O=o.next (fun a j=>tails L m0 fr a j)∧(o.isBad=false→m0<n∧8*(L.length - o.at)+1≤m0)∧(n=m0+1∨m0=0)∧(b=false→8*(L.length - i)+1≤m0):=by
    cases b
    ·have h1:=HN.out rfl
     obtain ⟨m,rfl⟩:∃ m,n=m+1:=⟨n - 1,by omega⟩;refine ⟨m,_,rfl,by rw [← HO.out,← HFR.out,start_false];exact prefix_op (fun k hk=>by simpa using HA.out k hk),?_,.inl rfl,fun _=>by omega⟩;intro hb;have:=((all_fwd m).operand i hi).gt hb;have:=((all_fwd m).operand i hi).le;rw [start_false]
     omega
    ·exact ⟨0,.bad i,rfl,HO.out.symm,(fun h=>by cases h),.inr rfl,(fun h=>by cases h)⟩
   have hfw:Fol L i b o0:=by rw [← ho];exact .begun hi ((all_fwd m0).operand i hi).toFw
   have hgt:o0.isBad=false→i<o0.at:=by
    rw [← ho]
    cases b
    ·exact ((all_fwd m0).operand i hi).gt
    ·intro h;cases h
   have c2:=HOP.out m0 hfu.2.1 i b wr HR.out HTr.out hi hfu.2.2;rw [ho] at c2;have HOO:=hid hOo;have HF:=hid hfw;have HGT:=hid hgt;have HFU:=hid hfu.1;clear hfu hOo hfw hgt ho
   go_wp2_with fail
   refine c2.mono ?_;rintro x w4 ⟨v,rfl,⟨k,t,f,e,sl,sn,sc,rfl,hnn,hv⟩,hw4⟩;have HV:=hid hv;have HW4:=hid hw4;clear c2 hv hw4
   go_upto_region 11 with fail
   obtain ⟨q,hq⟩:∃ q,w4.heap.size=q:=⟨_,rfl⟩;obtain ⟨W5,hW5⟩:∃ W,w4.alloc (.cells #[.string k,.string t,.int .i64 f,.int .i64 e,.slice sl sn sc] 25)=W:=⟨_,rfl⟩
   have hb5:Below w4.heap.size w4 W5:=by rw [← hW5];exact (Below.refl _ w4).alloc (Nat.le_refl _) _
   have hq5:W5.heap[q]?=some (.cells #[.string k,.string t,.int .i64 f,.int .i64 e,.slice sl sn sc] 25 (0,0)):=by rw [← hW5,← hq];exact heap_alloc_new w4 _
   rw [hW5,hq];have z13:=HM3.out.size;have z3r:=HM.out.size;have zr4:=HW4.out.2.size;have z3:=HZ3.out;have z1:=HZ1.out
   have hqw:w.heap.size<q∧W1.heap.size≤q∧w.heap.size<wr.heap.size:=by omega
   have hM1r:Mv W1.heap.size d W1 wr:=HM3.out.trans (HM.out.mono HM3.out.size)
   have hin:TailInv d L lv i fr O w W1 n q true o0 k t f e sl sn sc m0 W5 :=
    ⟨HOO.out,HW4.out.1.below hb5,(hM1r.trans (HW4.out.2.mono hM1r.size)).trans ((Mv.of_below hb5).mono (by omega)),hq5,
     ⟨k,t,f,e,sl,sn,sc,rfl,hnn,fun p j hp=>⟨(HV.out p j hp).1,(KidsIn.live _ _ (HV.out p j hp).2).later (Mv.still (B:=w4.heap.size) (d:=d) (Mv.of_below hb5) (Nat.le_refl _) (fun g hg=>by omega)) (fun g hg=>by omega)⟩⟩,HF.out.le,HGT.out,HFU.out⟩
   have HIN:=hid hin;have HQW:=hid hqw;clear hin hW5 hb5 hq5 hqw hM1r hnn HV HW4 HFU HGT HF HOO hq z13 z3r zr4 z3 z1 HA HR HM HMKr HTr
   go_wp2_with fail
   go_loopw [9] (fun mv X=>∃ (more:Bool) (o:Out Pt) (k t:ByteArray) (f e:Int) (sl:Option Addr) (sn sc m:Nat),mv=.bool more∧Hid (TailInv d L lv i fr O w W1 n q more o k t f e sl sn sc m X)) (fun mv X=>(L.length+1 - atR d X)*2+(match mv with|.bool true=>1|_=>0))
   case atStart=>exact ⟨true,o0,k,t,f,e,sl,sn,sc,m0,rfl,HIN⟩
   case round =>
    clear HIN;obtain ⟨more,o,k,t,f,e,sl,sn,sc,m,rfl,HIN⟩:=hrel
    cases more
    ·have hox:O=o:=HIN.out.out
     have hq7:wr.heap[w.heap.size]?=_:=(HIN.out.mv.block w.heap.size HZ1.out (by omega)).trans HQ1.out;obtain ⟨⟨p0,p1,p2,p3,p4⟩,-⟩:=five_cells HIN.out.box;obtain ⟨⟨r0,r1,r2,r3,r4⟩,gz⟩:=five_cells hq7;have g0:=gz 0;have g1:=gz 1;have g2:=gz 2;have g3:=gz 3;have g4:=gz 4;have HQ7:=hid hq7;have HOX:=hid hox;clear gz hq7 hox
     go_wp2_with fail
     have hp:=set_row5 (a':=.string k) (b':=.string t) (c':=.int .i64 f) (d':=.int .i64 e) (e':=.slice sl sn sc) HQ7.out;refine bodyPost_ret (v:=.agg #[.string k,.string t,.int .i64 f,.int .i64 e,.slice sl sn sc]) (results_cell_row rfl _ _ w.heap.size 25 #[.string k,.string t,.int .i64 f,.int .i64 e,.slice sl sn sc] (0,0) _ (by rfl) hp Tryz.underlying25 rfl (by kernel_rfl)) rfl ?_;rw [← HQ.out,HOX.out]
     exact reads_end hd (HM1.out.trans (HIN.out.mv.mono HM1.out.size)) HIN.out.rd rfl rfl (HIN.out.part.later (fun g _ _=>rfl) (fun g hg=>hg.1)) ⟨Nat.le_refl _,Nat.le_refl _⟩
    ·have hat:=HIN.out.rd.at
     have c2:=HIN.out.rd.c2
     cases hob:o.isBad
     ·rw [hob] at c2
      obtain ⟨oa,hoa⟩:∃ u,o.at=u:=⟨_,rfl⟩;have hop:=out_pt hob;obtain ⟨pa,hpa⟩:∃ u,o.pt=u:=⟨_,rfl⟩;rw [hpa,hoa] at hop;subst hop;have hfu:=HIN.out.fuel rfl;have hgt:i<oa:=HIN.out.gt rfl;have hle:oa≤L.length:=HIN.out.le;have hfu2:8*(L.length - oa)+1≤m:=hfu.2;obtain ⟨m',rfl⟩:∃ m',m=m'+1:=⟨m - 1,by omega⟩
      have hmn:m'<n:=by omega
      have hout:O=tails L (m'+1) fr pa oa:=HIN.out.out;rw [tails_succ] at hout;have HOUT:=hid hout;have hTX:=HT1.out.mv HIN.out.mv (Nat.le_refl _);have HTX:=hid hTX;have HRX:Hid (Rd d lv oa false wr):=hid HIN.out.rd;have HAT:Hid (atR d wr=oa):=hid hat;have c3:=take_any d L lv oa false [46] wr HRX.out hTX (by omega);rw [show bstr [46]=⟨#[46]⟩ from rfl] at c3
      have hqd:q≠d:=by have:=HQW.out;omega
      obtain ⟨R1,hR1⟩:∃ R1,(!false&&isT L [46] oa)=R1:=⟨_,rfl⟩;rw [hR1] at c3;have HA1:Hid (isT L [46] oa=R1):=hid hR1;clear hR1 hout hTX hfu hat hob hpa hoa
      cases R1
      ·have HNo:Hid (∀ X,Went d lv oa false wr X→True):=hid (fun _ _=>trivial)
       go_wp2_with fail
       refine c3.mono ?_;rintro x w5 ⟨rfl,hw5⟩;have hw5:Went d lv oa false wr w5:=hw5;have c4:=take_any d L lv oa false [91] w5 hw5.1 (HTX.out.mv hw5.2 (Nat.le_refl _)) (by omega);rw [show bstr [91]=⟨#[91]⟩ from rfl] at c4;have HW5:=hid hw5;obtain ⟨R2,hR2⟩:∃ R2,(!false&&isT L [91] oa)=R2:=⟨_,rfl⟩;rw [hR2] at c4;have HA2:Hid (isT L [91] oa=R2):=hid hR2;clear c3 hw5 hR2 c2 HNo
       cases R2
       ·go_wp2_with fail
        refine c4.mono ?_;rintro x w6 ⟨rfl,hw6⟩;have hw6:Went d lv oa false w5 w6:=hw6
        have HIN2:=hid (HIN.out.moved (more':=false) (HW5.out.2.trans (hw6.2.mono HW5.out.2.size)) hw6.1 (by omega) hqd (by
         rw [HOUT.out,if_neg (by rw [HA1.out];decide),if_neg (by rw [HA2.out];decide)];rfl))
        have HMS:Hid (atR d w6=oa):=hid hw6.1.at;clear c4 hw6
        go_wp2_with fail
        go_roundw
        case rel=>exact ⟨false,_,k,t,f,e,sl,sn,sc,_,rfl,HIN2⟩
        case measure =>
         rw [HMS.out,HAT.out]
         show (L.length+1 - oa)*2+0<(L.length+1 - oa)*2+1
         omega
       ·have hil:oa<L.length:=isT_lt HA2.out
        obtain ⟨ob,hob⟩:∃ u,expr L m' 0 (oa+1)=u:=⟨_,rfl⟩;have HF1:Hid (Fwd L (oa+1) ob):=hid (by rw [← hob];exact (all_fwd m').expr (oa+1) (by omega) 0);obtain ⟨om,hom⟩:∃ u,start ob.isBad ob.at (mustT L [93] ob.at)=u:=⟨_,rfl⟩
        have HFW:Hid (ob.at≤om.at∧om.at≤L.length):=hid (by
         rw [← hom]
         cases hb:ob.isBad
         ·exact ⟨(mustT_fwd _ HF1.out.le).ge,(mustT_fwd _ HF1.out.le).le⟩
         ·exact ⟨Nat.le_refl _,HF1.out.le⟩)
        have HSO:Hid (om.isBad=false→ob.isBad=false):=hid (by
         rw [← hom]
         cases hb:ob.isBad
         ·exact fun _=>rfl
         ·exact fun h=>by cases h)
        have HOO:Hid (O=(om.next fun _ j=>part L kIndex [] fr [pa,ob.pt] j).next fun a j=>tails L m' fr a j):=hid (by
         rw [HOUT.out,if_neg (by rw [HA1.out];decide),if_pos HA2.out,next_next,hob,← hom]
         cases ob <;> rfl)
        go_wp2_with fail
        refine c4.mono ?_;rintro x w6 ⟨rfl,hw6⟩;have hw6:Went d lv (oa+1) false w5 w6:=hw6;have HM6:=hid (HW5.out.2.trans (hw6.2.mono HW5.out.2.size));have c5:=HI.out m' hmn 0 (oa+1) false w6 hw6.1 (HTX.out.mv HM6.out (Nat.le_refl _)) (by omega) (fun _=>by omega);rw [start_false,hob] at c5;have HOM:=hid hom;clear c4 hw6 hob hom
        go_wp2_with fail
        refine c5.mono ?_;rintro x w7 ⟨v,rfl,⟨kb,tb,fb,eb,ab,nb,cb,rfl,hnb,hvb⟩,hw7⟩;have HVB:=hid hvb;have HW7:=hid hw7;clear c5 hvb hw7
        go_upto_region 20 with fail
        obtain ⟨qb,hqb⟩:∃ q,w7.heap.size=q:=⟨_,rfl⟩;obtain ⟨W8,hW8⟩:∃ W,w7.alloc (.cells #[.string kb,.string tb,.int .i64 fb,.int .i64 eb,.slice ab nb cb] 25)=W:=⟨_,rfl⟩
        have hb8:Below w7.heap.size w7 W8:=by rw [← hW8];exact (Below.refl _ w7).alloc (Nat.le_refl _) _
        have hk8:W8.heap[qb]?=some (.cells #[.string kb,.string tb,.int .i64 fb,.int .i64 eb,.slice ab nb cb] 25 (0,0)):=by rw [← hW8,← hqb];exact heap_alloc_new w7 _
        rw [hW8,hqb];have HM8:=hid ((HM6.out.trans (HW7.out.2.mono HM6.out.size)).trans ((Mv.of_below (d:=d) hb8).mono (Nat.le_trans HM6.out.size HW7.out.2.size)));have HR8:=hid (HW7.out.1.below hb8);have HK8:=hid hk8;have HB8:=hid hb8;have HQB:Hid (w6.heap.size≤w7.heap.size∧qb=w7.heap.size∧qb<W8.heap.size∧wr.heap.size≤w6.heap.size):=hid ⟨HW7.out.2.size,hqb.symm,(Array.getElem?_eq_some_iff.1 hk8).1,HM6.out.size⟩;clear hW8 hqb hb8 hk8;have c6:=must_any d L lv ob.at ob.isBad [93] W8 HR8.out (HTX.out.mv HM8.out (Nat.le_refl _)) (by have:=HF1.out.le;omega);rw [HOM.out,show bstr [93]=⟨#[93]⟩ from rfl] at c6
        go_wp2_with fail
        refine c6.mono ?_;rintro x w9 ⟨rfl,hw9⟩;have HM9:=hid (HM8.out.trans (hw9.2.mono HM8.out.size));have hq9:=(HM9.out.block q (Array.getElem?_eq_some_iff.1 HIN.out.box).1 hqd).trans HIN.out.box
        have hdq:d≠qb:=by have:=HQB.out;have:=HRX.out.lt;omega
        have hb9:=(hw9.2.block qb HQB.out.2.2.1 hdq.symm).trans HK8.out;obtain ⟨⟨l0,l1,l2,l3,l4⟩,-⟩:=five_cells hq9;obtain ⟨⟨b0,b1,b2,b3,b4⟩,-⟩:=five_cells hb9;obtain ⟨z,hz⟩:∃ z,w9.heap.size=z:=⟨_,rfl⟩;obtain ⟨Z,hZ⟩:∃ Z,w9.alloc (.cells #[.string k,.string t,.int .i64 f,.int .i64 e,.slice sl sn sc,.string kb,.string tb,.int .i64 fb,.int .i64 eb,.slice ab nb cb] 25)=Z:=⟨_,rfl⟩
        have hbz:Below w9.heap.size w9 Z:=by rw [← hZ];exact (Below.refl _ w9).alloc (Nat.le_refl _) _
        have hrz:Z.heap[w9.heap.size]?=some (.cells #[.string k,.string t,.int .i64 f,.int .i64 e,.slice sl sn sc,.string kb,.string tb,.int .i64 fb,.int .i64 eb,.slice ab nb cb] 25 (0,0)):=by rw [← hZ];exact heap_alloc_new w9 _
        have c7:=part_any d L lv om.at om.isBad ⟨#[105,110,100,101,120]⟩ ⟨#[]⟩ fr (some ⟨z,0,none⟩) 2 2 Z (hw9.1.below hbz) (HTX.out.mv (HM9.out.trans ((Mv.of_below hbz).mono HM9.out.size)) (Nat.le_refl _)) HFW.out.2 hL;obtain ⟨ez,hez⟩:∃ u,toT L om.at=u:=⟨_,rfl⟩;rw [hez] at c7;have HEZ:=hid hez;have HB6:=hid hq9;have HBZ:=hid hbz;have HRZ:=hid hrz;have hzq:q<w9.heap.size∧d<w9.heap.size∧W8.heap.size≤w9.heap.size:=⟨(Array.getElem?_eq_some_iff.1 hq9).1,hw9.1.lt,hw9.2.size⟩;have HZQ:=hid hzq;have HW9:=hid hw9;rw [← hz] at c7;clear c6 hw9 hq9 hb9 hez hbz hrz hz hzq
        go_wp2_with fail
        try rw [hZ]
        refine c7.mono ?_;rintro x wP ⟨rfl,hwP⟩;have hPq:wP.heap[q]?=_:=(hwP.2.block q (by have:=HBZ.out.size;have:=HZQ.out;omega) hqd).trans ((HBZ.out.block q HZQ.out.1).trans HB6.out);obtain ⟨⟨u0,u1,u2,u3,u4⟩,uz⟩:=five_cells hPq;have v0:=uz 0;have v1:=uz 1;have v2:=uz 2;have v3:=uz 3;have v4:=uz 4;obtain ⟨WF,hWF,hBX⟩:∃ WF,(((((wP.setCell ⟨q,0,none⟩ (.string ⟨#[105,110,100,101,120]⟩)).setCell ⟨q,1,none⟩ (.string ⟨#[]⟩)).setCell ⟨q,2,none⟩ (.int .i64 fr)).setCell ⟨q,3,none⟩ (.int .i64 ez)).setCell ⟨q,4,none⟩ (.slice (some ⟨w9.heap.size,0,none⟩) 2 2))=WF∧Boxed d lv om.at om.isBad q _ _ w9 WF:=⟨_,rfl,boxed HBZ.out HRZ.out hwP HZQ.out.1 HZQ.out.2.1 hqd HB6.out⟩;have hout2:=out_unit (o:=om) (L:=L) (K:=kIndex) (T:=[]) (F:=fr) [pa,ob.pt]
        have hpv:PartV WF (fun g=>w.heap.size<g∧g≠q) (om.next fun _ j=>part L kIndex [] fr [pa,ob.pt] j) (.agg #[.string ⟨#[105,110,100,101,120]⟩,.string ⟨#[]⟩,.int .i64 fr,.int .i64 ez,.slice (some ⟨w9.heap.size,0,none⟩) 2 2]):=by
         refine partV_row hBX.row ⟨by have:=HQW.out;have:=HZQ.out;omega,by have:=HZQ.out;omega⟩ (fun p j hpj=>?_) (by omega) (Nat.le_refl _);have hez:=HEZ.out;have hso:=HSO.out
         cases om with
         | bad j'=>cases hpj
         | ok s j' =>
          simp only [Out.next,part,Out.ok.injEq] at hpj;obtain ⟨rfl,rfl⟩:=hpj;refine ⟨kIndex,[],[pa,ob.pt],by rw [← hez];rfl,rfl,rfl,rfl,?_⟩;obtain ⟨k',t',f',e',a',n',c',h1,h2,h3⟩:=HIN.out.part;have h4:=congrArg (fun v:Value=>match v with|.agg xs=>xs.toList|_=>[]) h1
          simp at h4
          obtain ⟨rfl,rfl,rfl,rfl,rfl,rfl,rfl⟩:=h4;obtain ⟨g1,g2⟩:=h3 pa oa rfl;obtain ⟨e1,e2⟩:=HVB.out ob.pt ob.at (out_pt (hso rfl));have hz8:=HB8.out.size;have hq9:=HQW.out;have hqx:=(Array.getElem?_eq_some_iff.1 HIN.out.box).1;have w1:=g2.later (W':=WF) (R':=fun g=>w.heap.size<g∧g≠q) (fun g' hg' hl=>(hBX.far g' (by have:=HM9.out.size;omega) hg'.2 (by omega)).trans (HM9.out.block g' hl (by omega))) (fun g' hg'=>hg');have w2:=(KidsIn.live _ _ e2).later (W':=WF) (R':=fun g=>w.heap.size<g∧g≠q) (fun g' hg' hl=>(hBX.far g' (by have:=HZQ.out;have:=HQB.out;omega) (by have:=HQB.out;omega) (by have:=HQB.out;have:=HRX.out.lt;omega)).trans ((HW9.out.2.block g' (by have:=HQB.out;omega) (by have:=HQB.out;have:=HRX.out.lt;omega)).trans (HB8.out.block g' hl))) (fun g' hg'=>⟨by have:=HQB.out;omega,by have:=HQB.out;omega⟩)
          show PartsIn WF _ _ (([.string k,.string t,.int .i64 f,.int .i64 e,.slice sl sn sc]:List Value)++([.string kb,.string tb,.int .i64 fb,.int .i64 eb,.slice ab nb cb]++[]))
          rw [five_of g1,five_of e1]
          exact ⟨_,_,rfl,w1,_,_,rfl,w2,rfl⟩
        have hmv:Mv W1.heap.size d W1 WF:=HIN.out.mv.trans ((HM9.out.mono HIN.out.mv.size).trans (hBX.mv _ HQW.out.2.1));have HIN2:Hid (TailInv d L lv i fr O w W1 n q true (om.next fun _ j=>part L kIndex [] fr [pa,ob.pt] j) ⟨#[105,110,100,101,120]⟩ ⟨#[]⟩ fr ez (some ⟨w9.heap.size,0,none⟩) 2 2 m' WF):=hid ⟨by rw [HOO.out];rfl,by rw [hout2.1,hout2.2];exact hBX.rd,hmv,hBX.box,hpv,by rw [hout2.1];exact HFW.out.2,fun _=>by rw [hout2.1];have:=HFW.out;have:=HF1.out.ge;omega,fun _=>by rw [hout2.1];have:=HFW.out;have:=HF1.out.ge;omega⟩;have HMS:Hid (atR d WF=om.at):=hid hBX.rd.at;clear c7 hwP hPq uz hBX hout2 hpv hmv l0 l1 l2 l3 l4 b0 b1 b2 b3 b4
        go_wp2_with fail
        go_roundw
        case rel=>exact ⟨true,_,_,_,_,_,_,_,_,m',rfl,HIN2⟩
        case measure =>
         rw [HMS.out,HAT.out];have:=HFW.out;have:=HF1.out.ge
         show (L.length+1 - om.at)*2+1<(L.length+1 - oa)*2+1
         omega
      ·have hil:oa<L.length:=isT_lt HA1.out
       obtain ⟨nm,hnm⟩:∃ u,nameT L (oa+1)=u:=⟨_,rfl⟩;have HFW:Hid (Fwd L (oa+1) nm):=hid (by rw [← hnm];exact nameT_fwd (by omega))
       have HOO:Hid (O=(nm.next fun s j=>part L kField s fr [pa] j).next fun a j=>tails L m' fr a j):=hid (by
        rw [HOUT.out,if_pos HA1.out,next_next,hnm];rfl)
       go_wp2_with fail
       refine c3.mono ?_;rintro x w5 ⟨rfl,hw5⟩;have hw5:Went d lv (oa+1) false wr w5:=hw5;have c4:=name_any10 d L lv (oa+1) false w5 hw5.1 (HTX.out.mv hw5.2 (Nat.le_refl _)) (by omega);rw [start_false,hnm] at c4;obtain ⟨sv,hsv⟩:∃ u,nameV nm=u:=⟨_,rfl⟩;rw [hsv] at c4;have HW5:=hid hw5;have HSV:=hid hsv;clear c3 hw5 c2 hnm hsv
       go_wp2_with fail
       refine c4.mono ?_;rintro x w6 ⟨rfl,hw6⟩;have HM6:=hid (HW5.out.2.trans (hw6.2.mono HW5.out.2.size));have hb6:=(HM6.out.block q (Array.getElem?_eq_some_iff.1 HIN.out.box).1 hqd).trans HIN.out.box;obtain ⟨⟨l0,l1,l2,l3,l4⟩,-⟩:=five_cells hb6;obtain ⟨z,hz⟩:∃ z,w6.heap.size=z:=⟨_,rfl⟩;obtain ⟨Z,hZ⟩:∃ Z,w6.alloc (.cells #[.string k,.string t,.int .i64 f,.int .i64 e,.slice sl sn sc] 25)=Z:=⟨_,rfl⟩
       have hbz:Below w6.heap.size w6 Z:=by rw [← hZ];exact (Below.refl _ w6).alloc (Nat.le_refl _) _
       have hrz:Z.heap[w6.heap.size]?=some (.cells #[.string k,.string t,.int .i64 f,.int .i64 e,.slice sl sn sc] 25 (0,0)):=by rw [← hZ];exact heap_alloc_new w6 _
       have c5:=part_any d L lv nm.at nm.isBad ⟨#[102,105,101,108,100]⟩ sv fr (some ⟨z,0,none⟩) 1 1 Z (hw6.1.below hbz) (HTX.out.mv (HM6.out.trans ((Mv.of_below hbz).mono HM6.out.size)) (Nat.le_refl _)) HFW.out.le hL;obtain ⟨ez,hez⟩:∃ u,toT L nm.at=u:=⟨_,rfl⟩;rw [hez] at c5;have HEZ:=hid hez;have HB6:=hid hb6;have HBZ:=hid hbz;have HRZ:=hid hrz;have HZE:=hid hz;have hzq:q<w6.heap.size∧d<w6.heap.size:=⟨(Array.getElem?_eq_some_iff.1 hb6).1,hw6.1.lt⟩;have HZQ:=hid hzq;rw [← hz] at c5;clear c4 hw6 hb6 hez hbz hrz hz hzq
       go_wp2_with fail
       try rw [hZ]
       refine c5.mono ?_;rintro x wP ⟨rfl,hwP⟩;have hPq:wP.heap[q]?=_:=(hwP.2.block q (by have:=HBZ.out.size;have:=HZQ.out;omega) hqd).trans ((HBZ.out.block q HZQ.out.1).trans HB6.out);obtain ⟨⟨u0,u1,u2,u3,u4⟩,uz⟩:=five_cells hPq;have v0:=uz 0;have v1:=uz 1;have v2:=uz 2;have v3:=uz 3;have v4:=uz 4;obtain ⟨WF,hWF,hBX⟩:∃ WF,(((((wP.setCell ⟨q,0,none⟩ (.string ⟨#[102,105,101,108,100]⟩)).setCell ⟨q,1,none⟩ (.string sv)).setCell ⟨q,2,none⟩ (.int .i64 fr)).setCell ⟨q,3,none⟩ (.int .i64 ez)).setCell ⟨q,4,none⟩ (.slice (some ⟨w6.heap.size,0,none⟩) 1 1))=WF∧Boxed d lv nm.at nm.isBad q _ _ w6 WF:=⟨_,rfl,boxed HBZ.out HRZ.out hwP HZQ.out.1 HZQ.out.2 hqd HB6.out⟩;have hout2:=out_row (o:=nm) (L:=L) (K:=kField) (F:=fr) [pa]
       have hpv:PartV WF (fun g=>w.heap.size<g∧g≠q) (nm.next fun s j=>part L kField s fr [pa] j) (.agg #[.string ⟨#[102,105,101,108,100]⟩,.string sv,.int .i64 fr,.int .i64 ez,.slice (some ⟨w6.heap.size,0,none⟩) 1 1]):=by
        refine partV_row hBX.row ⟨by have:=HQW.out;have:=HZQ.out;omega,by have:=HZQ.out;omega⟩ (fun p j hpj=>?_) (by omega) (Nat.le_refl _);have hez:=HEZ.out;have hsv:=HSV.out
        cases nm with
        | bad j'=>cases hpj
        | ok s j' =>
         simp only [Out.next,part,Out.ok.injEq] at hpj;obtain ⟨rfl,rfl⟩:=hpj;refine ⟨kField,s,[pa],by rw [← hez];rfl,rfl,hsv,rfl,?_⟩;obtain ⟨k',t',f',e',a',n',c',h1,h2,h3⟩:=HIN.out.part;have h4:=congrArg (fun v:Value=>match v with|.agg xs=>xs.toList|_=>[]) h1
         simp at h4
         obtain ⟨rfl,rfl,rfl,rfl,rfl,rfl,rfl⟩:=h4;obtain ⟨g1,g2⟩:=h3 pa oa rfl;have w1:=g2.later (W':=WF) (R':=fun g=>w.heap.size<g∧g≠q) (fun g' hg' hl=>(hBX.far g' (by have:=HM6.out.size;omega) hg'.2 (by omega)).trans (HM6.out.block g' hl (by omega))) (fun g' hg'=>hg')
         show PartsIn WF _ _ (([.string k,.string t,.int .i64 f,.int .i64 e,.slice sl sn sc]:List Value)++[])
         rw [five_of g1]
         exact ⟨_,_,rfl,w1,rfl⟩
       have hmv:Mv W1.heap.size d W1 WF:=HIN.out.mv.trans ((HM6.out.mono HIN.out.mv.size).trans (hBX.mv _ HQW.out.2.1));have HIN2:Hid (TailInv d L lv i fr O w W1 n q true (nm.next fun s j=>part L kField s fr [pa] j) ⟨#[102,105,101,108,100]⟩ sv fr ez (some ⟨w6.heap.size,0,none⟩) 1 1 m' WF):=hid ⟨by rw [HOO.out];rfl,by rw [hout2.1,hout2.2];exact hBX.rd,hmv,hBX.box,hpv,by rw [hout2.1];exact HFW.out.le,fun _=>by rw [hout2.1];have:=HFW.out.ge;omega,fun _=>by rw [hout2.1];have:=HFW.out.ge;omega⟩;have HMS:Hid (atR d WF=nm.at):=hid hBX.rd.at;clear c5 hwP hPq uz hBX hout2 hpv hmv l0 l1 l2 l3 l4
       go_wp2_with fail
       go_roundw
       case rel=>exact ⟨true,_,_,_,_,_,_,_,_,m',rfl,HIN2⟩
       case measure =>
        rw [HMS.out,HAT.out];have:=HFW.out.ge
        show (L.length+1 - nm.at)*2+1<(L.length+1 - oa)*2+1
        omega
     ·rw [hob] at c2
      have hox:O=o:=by
       rw [HIN.out.out,if_pos rfl]
       cases o with
       | ok a j=>cases hob
       | bad j=>rfl
      have hq7:wr.heap[w.heap.size]?=_:=(HIN.out.mv.block w.heap.size HZ1.out (by omega)).trans HQ1.out;obtain ⟨⟨p0,p1,p2,p3,p4⟩,-⟩:=five_cells HIN.out.box;obtain ⟨⟨r0,r1,r2,r3,r4⟩,gz⟩:=five_cells hq7;have g0:=gz 0;have g1:=gz 1;have g2:=gz 2;have g3:=gz 3;have g4:=gz 4;have HQ7:=hid hq7;have HOX:=hid hox;clear gz hq7 hox
      go_wp2_with fail
      have hp:=set_row5 (a':=.string k) (b':=.string t) (c':=.int .i64 f) (d':=.int .i64 e) (e':=.slice sl sn sc) HQ7.out;refine bodyPost_ret (v:=.agg #[.string k,.string t,.int .i64 f,.int .i64 e,.slice sl sn sc]) (results_cell_row rfl _ _ w.heap.size 25 #[.string k,.string t,.int .i64 f,.int .i64 e,.slice sl sn sc] (0,0) _ (by rfl) hp Tryz.underlying25 rfl (by kernel_rfl)) rfl ?_;rw [← HQ.out,HOX.out]
      exact reads_end hd (HM1.out.trans (HIN.out.mv.mono HM1.out.size)) HIN.out.rd rfl rfl (HIN.out.part.later (fun g _ _=>rfl) (fun g hg=>hg.1)) ⟨Nat.le_refl _,Nat.le_refl _⟩
end Go.Proofs.YtmclaaonlhnbmaaGreatDoor.T
namespace Go.Proofs.YtmclaaonlhnbmaaGreatDoor.T
open Go.RowKit
open Go.Lib hiding intOf
open U S L
theorem infoPT:(Tryz.prog.info? 25).map (fun i=>(i.zero,i.size,i.bytes))=some (some (.agg #[.string ⟨#[]⟩,.string ⟨#[]⟩,.int .i64 0,.int .i64 0,.slice none 0 0]),5,72):=by kernel_rfl
theorem info_partsT {o:Option TypeInfo} {z:Option Value} {a b:Nat} (h:o.map (fun i=>(i.zero,i.size,i.bytes))=some (z,a,b)):∃ i,o=some i∧i.zero=z∧i.size=a∧i.bytes=b:=by
 cases o with
 | none=>cases h
 | some i =>
  simp only [Option.map_some,Option.some.injEq,Prod.mk.injEq] at h
  exact ⟨i,rfl,h⟩
def Fives:Nat→List Value→Prop
 | 0,xs=>xs=[]
 | n+1,xs=>∃ ys k t f e a m c,Fives n ys∧xs=ys++[.string k,.string t,.int .i64 f,.int .i64 e,.slice a m c]
theorem fives_one {k t:ByteArray} {f e:Int} {a:Option Addr} {m c:Nat}:Fives 1 [.string k,.string t,.int .i64 f,.int .i64 e,.slice a m c]:=⟨[],k,t,f,e,a,m,c,rfl,rfl⟩
theorem fives_two {k t k' t':ByteArray} {f e f' e':Int} {a a':Option Addr} {m c m' c':Nat}:Fives 2 [.string k,.string t,.int .i64 f,.int .i64 e,.slice a m c,.string k',.string t',.int .i64 f',.int .i64 e',.slice a' m' c']:=⟨_,k',t',f',e',a',m',c',fives_one,rfl⟩
theorem Fives.length:∀ {n:Nat} {xs:List Value},Fives n xs→xs.length=n*5
 | 0,_,h=>by rw [show _=[] from h];rfl
 | n+1,xs,h=>by
  obtain ⟨ys,k,t,f,e,a,m,c,h1,rfl⟩:=h;have:=h1.length
  simp [this];omega
theorem Fives.first:∀ {n:Nat} {xs:List Value},Fives (n+1) xs→∃ f,xs[2]?=some (.int .i64 f)
 | 0,_,h=>by
  obtain ⟨ys,k,t,f,e,a,m,c,h1,rfl⟩:=h;rw [show ys=[] from h1]
  exact ⟨f,rfl⟩
 | n+1,_,h=>by
  obtain ⟨ys,k,t,f,e,a,m,c,h1,rfl⟩:=h;obtain ⟨g,hg⟩:=h1.first;refine ⟨g,?_⟩;rw [List.getElem?_append_left (by have:=h1.length;omega)]
  exact hg
theorem Fives.last {n:Nat} {xs:List Value} (h:Fives (n+1) xs):∃ e,xs[n*5+3]?=some (.int .i64 e):=by
 obtain ⟨ys,k,t,f,e,a,m,c,h1,rfl⟩:=h;refine ⟨e,?_⟩;rw [List.getElem?_append_right (by have:=h1.length;omega),h1.length,Nat.add_sub_cancel_left]
 rfl
structure ListV (B:Nat) (o:Out (List Pt)) (v:Value) (n:Nat) (xs:List Value) (W:World):Prop where
 own:W.ownsRow B 25 5 v n xs
 fives:Fives n xs
 parts:∀ l j,o=.ok l j→l.length=n∧PartsIn W (fun g=>B≤g∧g<W.heap.size∧v.ownBlock≠some g) l xs
theorem ListV.nil (B:Nat) (j:Nat) (W:World):ListV B (.ok [] j) (.slice none 0 0) 0 [] W :=
 ⟨World.ownsRow_nil _ _ _ _,rfl,fun l j h=>by cases h;exact ⟨rfl,rfl⟩⟩
theorem ListV.out {B:Nat} {o o':Out (List Pt)} {v:Value} {n:Nat} {xs:List Value} {W:World} (h:ListV B o v n xs W) (ho:∀ l j,o'=.ok l j→∃ j',o=.ok l j'):ListV B o' v n xs W :=
 ⟨h.own,h.fives,fun l j hl=>by obtain ⟨j',h'⟩:=ho l j hl;exact h.parts l j' h'⟩
theorem ListV.mv {B d:Nat} {o:Out (List Pt)} {v:Value} {n:Nat} {xs:List Value} {W W':World} (h:ListV B o v n xs W) (hm:Mv W.heap.size d W W') (hd:d<B):ListV B o v n xs W':=by
 refine ⟨⟨h.own.1,?_⟩,h.fives,fun l j hl=>⟨(h.parts l j hl).1,PartsIn.later (fun g hg hgl=>hm.block g hgl (by omega)) (fun g hg=>⟨hg.1,Nat.lt_of_lt_of_le hg.2.1 hm.size,hg.2.2⟩) _ _ (h.parts l j hl).2⟩⟩
 rcases h.own.2 with h1|⟨g,cap,cur,rfl,h2,h3,h4⟩
 ·exact .inl h1
 ·exact .inr ⟨g,cap,cur,rfl,h2,(hm.block g (Array.getElem?_eq_some_iff.1 h3).1 (by omega)).trans h3,h4⟩
theorem ListV.form {B:Nat} {o:Out (List Pt)} {v:Value} {n:Nat} {xs:List Value} {W:World} (h:ListV B o v n xs W):∃ a c,v=.slice a n c:=by
 rcases h.own.2 with ⟨h1,h2⟩|⟨g,cap,cur,h1,_⟩
 ·exact ⟨none,0,by rw [h1,h2]⟩
 ·exact ⟨_,cap,h1⟩
theorem ListV.snoc {B C:Nat} {o o':Out (List Pt)} {ob:Out Pt} {v v':Value} {n m c:Nat} {xs:List Value} {k t:ByteArray} {f e:Int} {a:Option Addr} {W5 W6 X Y:World} (h:ListV B o v n xs X)
  (h5:ListV B o v n xs W5) (hC:W5.heap.size≤C) (hB:B≤C)
  (hv:∀ p j,ob=.ok p j→(.agg #[.string k,.string t,.int .i64 f,.int .i64 e,.slice a m c]:Value)=.agg (five p (.slice a m c)).toArray∧KidsIn W6 (fun g=>C≤g) p (.slice a m c)) (hX:Below W6.heap.size W6 X)
  (hown:Y.ownsRow B 25 5 v' (n+1) (xs++[.string k,.string t,.int .i64 f,.int .i64 e,.slice a m c])) (hgrow:X.grownBy Y v.ownBlock) (hrow:v'.ownBlock=v.ownBlock∨v'.ownBlock=some X.heap.size)
  (ho:∀ l j,o'=.ok l j→∃ l0 j0 p jp,o=.ok l0 j0∧ob=.ok p jp∧l=l0++[p]):ListV B o' v' (n+1) (xs++[.string k,.string t,.int .i64 f,.int .i64 e,.slice a m c]) Y:=by
 refine ⟨hown,⟨xs,k,t,f,e,a,m,c,h.fives,rfl⟩,fun l j hl=>?_⟩;obtain ⟨l0,j0,p,jp,h1,h2,rfl⟩:=ho l j hl;obtain ⟨e1,e2⟩:=h.parts l0 j0 h1;obtain ⟨e3,e4⟩:=hv p jp h2;refine ⟨by simp [e1],?_⟩;rw [five_of e3]
 have hne:∀ g,g<X.heap.size→v.ownBlock≠some g→v'.ownBlock≠some g:=fun g hg hn=>by
  rcases hrow with hr|hr
  ·rw [hr];exact hn
  ·rw [hr];intro h';injection h' with h';omega
 refine PartsIn.snoc (PartsIn.later (fun g hg hgl=>hgrow.block g hgl (fun h'=>hg.2.2 h'.symm)) (fun g hg=>⟨hg.1,Nat.lt_of_lt_of_le hg.2.1 hgrow.size,hne g hg.2.1 hg.2.2⟩) _ _ e2) ?_
 have hvn:∀ g,C≤g→v.ownBlock≠some g:=fun g hg h'=>by have:=(h5.own.lt g h').2;omega
 have hxs:=hX.size;refine ((KidsIn.live _ _ e4).later (W':=X) (R':=fun g=>C≤g∧g<X.heap.size) (fun g hg hgl=>hX.block g hgl) (fun g hg=>⟨hg.1,by omega⟩)).later (fun g hg hgl=>hgrow.block g hgl (fun h'=>hvn g hg.1 h'.symm)) (fun g hg=>⟨by omega,Nat.lt_of_lt_of_le hg.2 hgrow.size,hne g hg.2 (hvn g hg.1)⟩)
theorem partV_list {B:Nat} {o:Out (List Pt)} {v:Value} {n:Nat} {xs:List Value} {W:World} {R:Nat→Prop} {O:Out Pt} {kv tv:ByteArray} {F E:Int} (h:ListV B o v n xs W) (hR:∀ g,B≤g→R g) (hn:n≤1000000)
  (hO:∀ p j,O=.ok p j→∃ K T ks j',p=.mk K T F E ks∧bstr K=kv∧bstr T=tv∧o=.ok ks j') :
  PartV W R O (.agg #[.string kv,.string tv,.int .i64 F,.int .i64 E,v]):=by
 obtain ⟨a,c,hv⟩:=h.form;subst hv;refine ⟨_,_,_,_,_,_,_,rfl,hn,?_⟩;intro p j hpj;obtain ⟨K,T,ks,j',rfl,rfl,rfl,h5⟩:=hO p j hpj;obtain ⟨e1,e2⟩:=h.parts ks j' h5;refine ⟨rfl,?_⟩
 rcases h.own.2 with ⟨h1,h2⟩|⟨g,cap,cur,h1,h2,h3,h4,_,_,h6⟩
 ·cases h1
  have hk:ks=[]:=List.eq_nil_of_length_eq_zero (by omega);subst hk
  exact ⟨_,_,by rw [List.length_nil,← h2],by omega,.inl rfl⟩
 ·cases h1
  refine ⟨_,_,by rw [e1],by omega,.inr ⟨g,0,xs,rfl,hR g h2,fun j u hj=>?_,PartsIn.later (fun _ _ _=>rfl) (fun g hg=>hR g hg.1) _ _ e2⟩⟩
  unfold World.cell?
  rw [h3];rw [← h6,List.getElem?_take] at hj
  split at hj
  ·simpa using hj
  ·cases hj
theorem one_part {k t:ByteArray} {f e:Int} {a:Option Addr} {n c:Nat}:∀ u∈([.string k,.string t,.int .i64 f,.int .i64 e,.slice a n c]:List Value),u.oneCell'=true:=by
 intro u hu;simp only [List.mem_cons,List.not_mem_nil,or_false] at hu
 rcases hu with rfl|rfl|rfl|rfl|rfl <;> rfl
theorem row_news {W:World} {g:Nat} {cs:Array Value} {t:TypeId} (h:W.heap[g]?=some (.cells cs t (0,0))):∀ j u,cs.toList[j]?=some u→W.cell? ((⟨g,0,none⟩:Addr).add j)=some u:=fun j u hj=>by
 rw [Addr.add_lit,Nat.zero_add]
 unfold World.cell?
 rw [h]
 simpa using hj
def goodR (d:Nat) (w:World):Nat:=match w.cell? ⟨d,2,none⟩ with
 | some (.bool false)=>1
 | _=>0
theorem Rd.good {d:Nat} {lv:Value} {i:Nat} {b:Bool} {w:World} (h:Rd d lv i b w):goodR d w=if b then 0 else 1:=by unfold goodR;rw [h.c2];cases b <;> rfl
structure LoopInv (d:Nat) (L:List TokP) (lv:Value) (W1:World) (OL:Out (List Pt)) (step:Nat→Nat→List Pt→Out (List Pt)) (lo mx:Nat) (fin:Bool) (o:Out (List Pt)) (v:Value) (n:Nat) (xs:List Value) (m:Nat) (W:World):Prop where
 out:OL=if fin then o else o.next fun l j=>step m j l
 rd:Rd d lv o.at o.isBad W
 mv:Mv W1.heap.size d W1 W
 list:ListV W1.heap.size o v n xs W
 le:o.at≤L.length
 lo:lo≤o.at
 cnt:n+(if o.isBad then 0 else 1)≤o.at
 fuel:fin=false→o.isBad=false→8*(L.length - o.at)+5≤m∧m≤mx
theorem start_so {α:Type} {b:Bool} {i:Nat} {o:Out α} (h:(start b i o).isBad=false):b=false∧start b i o=o:=by
 cases b
 ·exact ⟨rfl,rfl⟩
 ·cases h
theorem out_ok {α:Type} {o:Out α} (h:o.isBad=false):∃ a,o=.ok a o.at:=by
 cases o with
 | ok a j=>exact ⟨a,rfl⟩
 | bad j=>cases h
theorem unit_ok {om:Out Unit} {L:List TokP} {K T:By} {F:Int} {ks:List Pt} {p:Pt} {j:Nat} (h:(om.next fun _ q=>part L K T F ks q)=.ok p j):om.isBad=false∧p=.mk K T F (toT L om.at) ks:=by
 cases om with
 | bad j=>cases h
 | ok a k =>
  simp only [Out.next,part,Out.ok.injEq] at h
  exact ⟨rfl,h.1.symm⟩
theorem list_must {OL:Out (List Pt)} {L:List TokP} {x K T:By} {F:Int} {om:Out Unit} (hom:start OL.isBad OL.at (mustT L x OL.at)=om) :
  (OL.next fun l k=>(mustT L x k).next fun _ m=>part L K T F l m).at=om.at∧(OL.next fun l k=>(mustT L x k).next fun _ m=>part L K T F l m).isBad=om.isBad:=by
 subst hom
 cases OL with
 | bad j=>exact ⟨rfl,rfl⟩
 | ok l k =>
  show ((mustT L x k).next fun _ m=>part L K T F l m).at=(mustT L x k).at∧((mustT L x k).next fun _ m=>part L K T F l m).isBad=(mustT L x k).isBad
  cases mustT L x k <;> exact ⟨rfl,rfl⟩
theorem list_must_ok {OL:Out (List Pt)} {L:List TokP} {x K T:By} {F:Int} {om:Out Unit} (hom:start OL.isBad OL.at (mustT L x OL.at)=om) {p:Pt} {j:Nat} (h:(OL.next fun l k=>(mustT L x k).next fun _ m=>part L K T F l m)=.ok p j) :
  ∃ ks j',p=.mk K T F (toT L om.at) ks∧OL=.ok ks j':=by
 subst hom
 cases OL with
 | bad j=>cases h
 | ok l k =>
  have h:((mustT L x k).next fun _ m=>part L K T F l m)=.ok p j:=h
  cases hm:mustT L x k with
  | bad q=>rw [hm] at h;cases h
  | ok u q =>
   rw [hm] at h;simp only [Out.next,part,Out.ok.injEq] at h;refine ⟨l,k,?_,rfl⟩;rw [← h.1]
   show _=Pt.mk K T F (toT L (mustT L x k).at) l
   rw [hm];rfl
end Go.Proofs.YtmclaaonlhnbmaaGreatDoor.T
