/- What the claim needs of the texts KDecl, JLaid, JText, JSame, JAlive, TRd, TRd2, TRd3, TPart, TFwd. -/
import Derived.Test.YtmclaaonlhnbmaaGreatDoorROp
import Derived.Test.YtmclaaonlhnbmaaGreatDoorR11
import Derived.Test.YtmclaaonlhnbmaaGreatDoorRows
import Derived.Test.YtmclaaonlhnbmaaGreatDoorR10
import Derived.OpenShut
import Derived.Lib.LaidTab
import Derived.Lib.LaidU8T
import Derived.PinnedBridge
import Derived.Test.YtmclaaonlhnbmaaGreatDoorR9
import Derived.Lib.Hide
import Derived.Test.YtmclaaonlhnbmaaGreatDoorR2
import Derived.Deep.QuietTactic
import Derived.BigQuiet
import Derived.BigRegion
import Derived.Deep.DeepCutAuto
namespace Go.Proofs.YtmclaaonlhnbmaaGreatDoor.K
open Go.RowKit
open Go.Lib hiding intOf
open U S T J
def MTab (w:World):Prop:=2<w.heap.size∧(∃ o:Obj,w.heap[2]?=some o∧o.isCells=true)∧CellsAt w 2 0 tabS
theorem MTab.later {w w':World} (h:MTab w) (hb:Below w.heap.size w w'):MTab w':=by
 obtain ⟨h1,⟨o,h2,h3⟩,h4⟩:=h;have hq:=hb.block _ h1;refine ⟨Nat.lt_of_lt_of_le h1 hb.size,⟨o,hq.trans h2,h3⟩,fun j u hj=>?_⟩;have:=h4 j u hj
 exact (hb.cell (p:=⟨_,0+j,none⟩) h1).trans this
theorem stay_below {O O':Nat→Prop} {W W':World} {B:Nat} (h:Stay O O' W W') (hO:∀ k,O k→B≤k) (hB:B≤W.heap.size):Below B W W' :=
 ⟨h.os,h.tape,h.output,h.size,fun k hk=>h.block k (by omega) (fun ho=>by have:=hO k ho;omega)⟩
theorem read_q {d:Nat} {s:By} {right:Bool} {lv:Value} {O:Nat→Prop} {B:Nat} {W:World} (hM:Mem d (scanB right s) s.length lv ⟨0,[],[root]⟩ O W) (hl:(scanB right s).length≤1660) (hwt:∀ p,fate (scanB right s)=.part p→wtP p≤100000000) (hG:MTab W) (hO:∀ k,O k→B≤k) (hB:B≤W.heap.size) (hg:2<B) :
  Calls Tryz.prog 19 #[ptr d] W fun e W'=>∃ q lv at' er,e=.returned (.tuple #[arg q lv,.int .i64 at',.int .i64 er])∧KidsIn W' (fun _=>True) q lv∧wtP q≤100000000∧NnL (kidsP q)∧Below B W W' ∧
   declP (scanB right s) s.length=if 40<deep q then (zeroP,0,22) else (q,at',er):=by
 have hG':PTab O W:=⟨⟨hG.1,fun h=>by have:=hO _ h;omega,hG.2.1⟩,hG.2.2⟩;refine (read_any hM (scan_fine right s) hl hG').mono ?_;intro e W' h
 unfold declP
 cases hf:fate (scanB right s) with
 | bad j =>
  rw [hf] at h;obtain ⟨O',rfl,hS⟩:=h;refine ⟨zeroP,.slice none 0 0,(tok (scanB right s) s.length j).f,101,rfl,⟨none,0,rfl,Nat.le_refl _,.inl rfl⟩,by decide,NnL.nil,stay_below hS hO hB,?_⟩;rw [if_neg (by decide)]
 | part p =>
  rw [hf] at h;obtain ⟨plv,O',rfl,hk,hS⟩:=h
  exact ⟨p,plv,0,0,rfl,KidsIn.later (fun _ _ _=>rfl) (fun _ _=>trivial) _ _ hk,hwt p hf,(by have h:=fate_nn hf;cases p;unfold Nn at h;exact h.2),stay_below hS hO hB,rfl⟩
theorem set_five {W:World} {b:Nat} {t:TypeId} {u0 u1 u2 u3 u4:Value} (v0 v1 v2 v3 v4:Value) (h:W.heap[b]?=some (.cells #[u0,u1,u2,u3,u4] t (0,0))) :
  ∃ W',((((W.setCell ⟨b,0,none⟩ v0).setCell ⟨b,1,none⟩ v1).setCell ⟨b,2,none⟩ v2).setCell ⟨b,3,none⟩ v3).setCell ⟨b,4,none⟩ v4=W'∧W'.heap[b]?=some (.cells #[v0,v1,v2,v3,v4] t (0,0))∧(∀ k,k≠b→W'.heap[k]?=W.heap[k]?)∧∀ B,B≤b→Below B W W':=by
 have s0:(W.setCell ⟨b,0,none⟩ v0).heap[b]?=some (.cells #[v0,u1,u2,u3,u4] t (0,0)):=Go.Joins.block_setCell h v0;have s1:((W.setCell ⟨b,0,none⟩ v0).setCell ⟨b,1,none⟩ v1).heap[b]?=some (.cells #[v0,v1,u2,u3,u4] t (0,0)):=Go.Joins.block_setCell s0 v1;have s2:(((W.setCell ⟨b,0,none⟩ v0).setCell ⟨b,1,none⟩ v1).setCell ⟨b,2,none⟩ v2).heap[b]?=some (.cells #[v0,v1,v2,u3,u4] t (0,0)):=Go.Joins.block_setCell s1 v2;have s3:((((W.setCell ⟨b,0,none⟩ v0).setCell ⟨b,1,none⟩ v1).setCell ⟨b,2,none⟩ v2).setCell ⟨b,3,none⟩ v3).heap[b]?=some (.cells #[v0,v1,v2,v3,u4] t (0,0)):=Go.Joins.block_setCell s2 v3;have s4:(((((W.setCell ⟨b,0,none⟩ v0).setCell ⟨b,1,none⟩ v1).setCell ⟨b,2,none⟩ v2).setCell ⟨b,3,none⟩ v3).setCell ⟨b,4,none⟩ v4).heap[b]?=some (.cells #[v0,v1,v2,v3,v4] t (0,0)):=Go.Joins.block_setCell s3 v4
 have oth:∀ k,k≠b→(((((W.setCell ⟨b,0,none⟩ v0).setCell ⟨b,1,none⟩ v1).setCell ⟨b,2,none⟩ v2).setCell ⟨b,3,none⟩ v3).setCell ⟨b,4,none⟩ v4).heap[k]?=W.heap[k]?:=fun k hk =>
  (Below.heap_setCell _ _ _ _ hk).trans ((Below.heap_setCell _ _ _ _ hk).trans ((Below.heap_setCell _ _ _ _ hk).trans ((Below.heap_setCell _ _ _ _ hk).trans (Below.heap_setCell _ _ _ _ hk))))
 have b1:∀ B,B≤b→∀ (X:World) (j:Nat) (v:Value),Below B X (X.setCell ⟨b,j,none⟩ v):=fun B hB X j v=>⟨rfl,rfl,rfl,by simp,fun k hk=>Below.heap_setCell _ _ _ _ (by show k≠b;omega)⟩
 exact ⟨_,rfl,s4,oth,fun B hB=>((((b1 B hB _ _ _).trans (b1 B hB _ _ _)).trans (b1 B hB _ _ _)).trans (b1 B hB _ _ _)).trans (b1 B hB _ _ _)⟩
theorem kids_leaveL {W:World} {R X:Nat→Prop} (hX:∀ g off k,X g→k≠[]→W.cell? ⟨g,off,none⟩≠some (.string (bstr k))) {k t:By} {f e:Int} {ks:List Pt} {lv:Value} (hn:NnL ks) (h:KidsIn W R (.mk k t f e ks) lv):KidsIn W (fun g=>R g∧¬ X g) (.mk k t f e ks) lv :=
 kids_leave hX (.mk [0] t f e ks) lv (by unfold Nn;exact ⟨by decide,hn⟩) h
def DeclPost (s:ByteArray) (w:World) (e:Ending) (w':World):Prop:=∃ p at' er lv,declP (scanB (okB s) s.toList) s.size=(p,at',er)∧e=.returned (.tuple #[arg p lv,.int .i64 at',.int .i64 er])∧KidsIn w' (fun _=>True) p lv∧Below w.heap.size w w'∧wtP p≤100000000
set_option maxHeartbeats 4000000 in
set_option maxRecDepth 20000 in
theorem decl_big (s:ByteArray) (w:World) (hs:s.size≤1000000000000) (hlw:(scanB (okB s) s.toList).length≤1660) (hwf:∀ p,fate (scanB (okB s) s.toList)=.part p→wtP p≤100000000) (hT:Tabs w) (hG:MTab w) :
  Calls Tryz.prog 8 #[.string s] w (DeclPost s w):=by
 have hgl:=hG.1;have HT:=hid hT;have HG:=hid hG;have HS:=hid hs;have HLW:=hid hlw;have HWF:=hid hwf;have htl:=tl_len s;clear hT hG hlw hwf
 go_enter Tryz.func8,Tryz.ntmps8
 go_upto_region 1 with fail
 obtain ⟨w1,hw1,hq1,hb1,hz1⟩:=new_block w (.cells #[.string ⟨#[]⟩,.string ⟨#[]⟩,.int .i64 0,.int .i64 0,.slice none 0 0] 25);rw [hw1];have HB1:=hid hb1;have HQ1:=hid hq1;have HZ1:=hid hz1;have cN:=new_any s w1 HS.out (Nat.le_trans HLW.out (by decide)) (HT.out.later hb1);clear hw1 hq1 hb1 hz1
 go_wp2_with fail
 refine cN.mono ?_;rintro e w2 ⟨d,rv,O,rfl,hM,hb2,hO⟩;have hz2:=HB1.out.size;have HB2:=hid (HB1.out.trans (hb2.mono hz2));have HQ2:=hid ((hb2.block _ HZ1.out).trans HQ1.out);have cR:=read_q (B:=w1.heap.size) (by rw [htl];exact hM) HLW.out HWF.out (HG.out.later HB2.out) hO hb2.size (by omega);rw [htl] at cR;have HZ2:=hid (Nat.lt_of_lt_of_le HZ1.out hb2.size);clear cN hM hO hb2
 go_wp2_with fail
 refine cR.mono ?_;rintro e w3 ⟨q,lv,at',er,rfl,hk,hwt,hnn,hb3,hdp⟩;have HB3:=hid (HB2.out.trans (hb3.mono hz2));have HQ3:=hid ((hb3.block _ HZ1.out).trans HQ2.out);have HZ3:=hid (Nat.lt_of_lt_of_le HZ2.out hb3.size);have HDP:=hid hdp;obtain ⟨k,t,f,e,ks⟩:=q;obtain ⟨a,c,rfl⟩:=J.kids_form hk;have HK:=hid hk;have HNN:=hid hnn;have HWT:=hid hwt
 have cD:=fun X (hX:Below w3.heap.size w3 X)=>deep_any (.mk k t f e ks) (kids_below HK.out hX) (by have:=HWT.out;omega)
 obtain ⟨dp,hdpn⟩:∃ n,deep (.mk k t f e ks)=n:=⟨_,rfl⟩;rw [hdpn] at cD;have HDN:=hid hdpn;simp only [arg,five] at cD ⊢;obtain ⟨kb,hkb⟩:∃ x,bstr k=x:=⟨_,rfl⟩;obtain ⟨tb,htb⟩:∃ x,bstr t=x:=⟨_,rfl⟩;have HKB:=hid hkb;have HTB:=hid htb;rw [hkb,htb] at cD ⊢;obtain ⟨n,hn⟩:∃ n,ks.length=n:=⟨_,rfl⟩;have HN:=hid hn;rw [hn] at cD ⊢;clear cR hk hwt hnn hb3 hdp hdpn hkb htb hn htl hgl
 go_upto_region 2 with fail
 obtain ⟨w4,hw4,hq4,hb4,hz4⟩:=new_block w3 (.cells #[.string kb,.string tb,.int .i64 f,.int .i64 e,.slice a n c] 25);rw [hw4];have cD4:=cD w4 hb4;have HQ4:=hid hq4;have HB4:=hid hb4;have HZ4:=hid hz4;obtain ⟨⟨q0,q1,q2,q3,q4⟩,qf⟩:=J.cells_five hq4;clear hw4 hq4 hb4 hz4 cD
 go_wp2_with fail
 refine cD4.mono ?_;rintro e' w5 ⟨rfl,hb5⟩;have hq5:=(hb5.block _ HZ4.out).trans HQ4.out;have hp5:=(hb5.block _ (by have:=HZ3.out;have:=HB4.out.size;omega)).trans ((HB4.out.block _ HZ3.out).trans HQ3.out);have HB5:=hid (HB3.out.trans ((HB4.out.trans (hb5.mono HB4.out.size)).mono HB3.out.size))
 have hne:w3.heap.size≠w.heap.size:=by have:=HZ3.out;omega
 obtain ⟨⟨q0,q1,q2,q3,q4⟩,qf⟩:=J.cells_five hq5;obtain ⟨⟨p0,p1,p2,p3,p4⟩,pf⟩:=J.cells_five hp5;have HK5:=hid (kids_below (kids_below HK.out HB4.out) hb5);have HP5:=hid hp5;obtain ⟨b,hb⟩:∃ b,w.heap.size=b:=⟨_,rfl⟩;have HWB:=hid hb;rw [hb] at p0 p1 p2 p3 p4 pf hne HP5 ⊢;clear cD4 hb5 hq5 hp5 hb
 by_cases hd:40<dp
 ·go_wp2_with fail
  obtain ⟨Wf,hWf,f0,oth,hbf⟩:=set_five (.string ⟨#[]⟩) (.string ⟨#[]⟩) (.int .i64 0) (.int .i64 0) (.slice none 0 0) HP5.out;rw [hWf];obtain ⟨⟨y0,y1,y2,y3,y4⟩,_⟩:=J.cells_five f0;have hbw:Below w.heap.size w Wf:=HB5.out.trans (hbf _ (by have:=HWB.out;omega))
  have hfin:DeclPost s w (.returned (.tuple #[.agg #[.string ⟨#[]⟩,.string ⟨#[]⟩,.int .i64 0,.int .i64 0,.slice none 0 0],.int .i64 0,.int .i64 22])) Wf :=
   ⟨zeroP,0,22,.slice none 0 0,by rw [HDP.out,HDN.out,if_pos hd],rfl,⟨none,0,rfl,Nat.le_refl _,.inl rfl⟩,hbw,by decide⟩
  clear hWf f0 oth hbf hbw q0 q1 q2 q3 q4 qf p0 p1 p2 p3 p4 pf
  simp [bodyPost,results,Tryz.results8,go_sem,y0,y1,y2,y3,y4]
  exact hfin
 ·go_wp2_with fail
  obtain ⟨Wf,hWf,f0,oth,hbf⟩:=set_five (.string kb) (.string tb) (.int .i64 f) (.int .i64 e) (.slice a n c) HP5.out;rw [hWf];obtain ⟨⟨y0,y1,y2,y3,y4⟩,_⟩:=J.cells_five f0;have hbw:Below w.heap.size w Wf:=HB5.out.trans (hbf _ (by have:=HWB.out;omega))
  have hkf:KidsIn Wf (fun _=>True) (.mk k t f e ks) (.slice a ks.length c) :=
   KidsIn.later (fun g hg _=>oth g hg.2) (fun _ _=>trivial) _ _ (kids_leaveL (X:=fun g=>g=b) (fun g off k hg hk=>by subst hg;exact blank_block HP5.out off k hk) HNN.out HK5.out)
  have hfin:DeclPost s w (.returned (.tuple #[.agg #[.string kb,.string tb,.int .i64 f,.int .i64 e,.slice a n c],.int .i64 at',.int .i64 er])) Wf :=
   ⟨.mk k t f e ks,at',er,.slice a ks.length c,by rw [HDP.out,HDN.out,if_neg hd],by rw [arg,five,HKB.out,HTB.out,HN.out],hkf,hbw,HWT.out⟩
  clear hWf f0 oth hbf hbw hkf q0 q1 q2 q3 q4 qf p0 p1 p2 p3 p4 pf
  simp [bodyPost,results,Tryz.results8,go_sem,y0,y1,y2,y3,y4]
  exact hfin
theorem decl_any (s:ByteArray) (w:World) (hs:s.size≤600) (hT:Tabs w) (hG:MTab w) :
  Calls Tryz.prog 8 #[.string s] w (DeclPost s w) :=
 decl_big s w (by omega) (by have h:=scan_len' (okB s) s.toList;have e:=tl_len s;omega) (fun p h=>wt_fate (by have e:=tl_len s;omega) h) hT hG
end Go.Proofs.YtmclaaonlhnbmaaGreatDoor.K
namespace Go.Proofs.YtmclaaonlhnbmaaGreatDoor.J
open Go.Proofs Go.Shelf Go.RowKit
open Go.Lib hiding intOf
open U S T
open Go.Proofs.YtmclaaonlhnbmaaGreatDoor.K (MTab tabS)
theorem tabs_of {W:World} {l:List (String × DataW Unit)} (hL:laidMet Tryz.prog l W) (h1:("unicode/utf8.first",Rows.laid_unicode_utf8_first)∈l) (h2:("unicode/utf8.acceptRanges",Rows.laid_unicode_utf8_acceptRanges)∈l):Tabs W :=
 utf8Tabs_of_readsT (U8Types.of196 lays) ⟨by kernel_rfl,by kernel_rfl,by kernel_rfl,by kernel_rfl,by kernel_rfl,by kernel_rfl,by kernel_rfl⟩
  (Pinned.utf8First_eq ▸ Lib.laidMet.reads hL h1) (Lib.laidMet.reads hL h2)
theorem cells_mark:Tryz.prog.cellsOf 142=2:=by kernel_rfl
theorem cells_marks:Tryz.prog.cellsOf 143=26:=by kernel_rfl
theorem cells_strJ:Tryz.prog.cellsOf 9=1:=by kernel_rfl
theorem cells_intJ:Tryz.prog.cellsOf 3=1:=by kernel_rfl
theorem two_listJ {α:Type} {l:List α} (h:l.length=2):∃ a b,l=[a,b]:=by
 match l,h with
 | [a,b],_=>exact ⟨a,b,rfl⟩
theorem str_backJ {s:ByteArray} {l:List UInt8} (h:s.data.toList=l):s=⟨l.toArray⟩:=by
 subst h
 cases s
 simp
theorem mark_of {H:Type} {enc:TypeId × Value→H} {W:World} {held:Bool} {fuel:Nat} {cs:List Value} {s:List UInt8} {k:Int} {x:DataW H × List MemPlace}
  (h:DataW.trod enc Tryz.prog W 0 (fun _=>true) held fuel 142 cs=some x) (hx:x.1=.agg [.lit (.string s),.lit (.int .i64 k)]):cs=[.string ⟨s.toArray⟩,.int .i64 k]:=by
 obtain ⟨xs,n,rfl,rfl,hcl,hxl,hfd⟩:=DataW.trod_struct Tryz.underlying142 h;rw [cells_mark] at hcl;obtain ⟨c0,c1,rfl⟩:=two_listJ hcl;obtain ⟨y0,y1,rfl⟩:=two_listJ (hxl.trans rfl);have f0:=hfd 0 _ rfl;have f1:=hfd 1 _ rfl;have g0:DataW.trod enc Tryz.prog W 0 (fun _=>true) held n 9 (([c0,c1].drop 0).take (Tryz.prog.cellsOf 9))=some y0:=f0;rw [cells_strJ] at g0;replace g0:DataW.trod enc Tryz.prog W 0 (fun _=>true) held n 9 [c0]=some y0:=g0;have g1:DataW.trod enc Tryz.prog W 0 (fun _=>true) held n 3 (([c0,c1].drop 1).take (Tryz.prog.cellsOf 3))=some y1:=f1;rw [cells_intJ] at g1;replace g1:DataW.trod enc Tryz.prog W 0 (fun _=>true) held n 3 [c1]=some y1:=g1;obtain ⟨ts,h0,e0,_⟩:=DataW.trod_string Tryz.underlying9 g0;obtain ⟨z,h1,e1,_⟩:=DataW.trod_int Tryz.underlying3 g1
 cases h0;cases h1
 subst e0;subst e1;simp only [List.map_cons,List.map_nil,DataW.agg.injEq,List.cons.injEq,DataW.lit.injEq,Lit.int.injEq,Lit.string.injEq,true_and,and_true] at hx;obtain ⟨hs,rfl⟩:=hx;rw [str_backJ hs]
theorem rows_flatJ {α:Type} {k:Nat}:∀ (rows:List (List α)) (cs:List α),cs.length=rows.length*k→(∀ i r,rows[i]?=some r→(cs.drop (i*k)).take k=r)→cs=rows.flatten
 | [],cs,hl,_=>by
  simp at hl
  simpa using hl
 | r :: rows,cs,hl,h=>by
  have h0:=h 0 r rfl;simp only [Nat.zero_mul,List.drop_zero] at h0
  have ih:=rows_flatJ rows (cs.drop k) (by rw [List.length_drop,hl,List.length_cons,Nat.add_mul,Nat.one_mul,Nat.add_sub_cancel]) (fun i r' hr=>by
   have:=h (i+1) r' (by simpa using hr);rw [List.drop_drop,show k+i*k=(i+1)*k by rw [Nat.add_mul,Nat.one_mul,Nat.add_comm]]
   exact this)
  rw [List.flatten_cons,← h0,← ih,List.take_append_drop]
theorem list13 {α:Type} {l:List α} (h:l.length=13):∃ x0 x1 x2 x3 x4 x5 x6 x7 x8 x9 x10 x11 x12,l=[x0,x1,x2,x3,x4,x5,x6,x7,x8,x9,x10,x11,x12]:=by
 match l,h with
 | [x0,x1,x2,x3,x4,x5,x6,x7,x8,x9,x10,x11,x12],_=>exact ⟨x0,x1,x2,x3,x4,x5,x6,x7,x8,x9,x10,x11,x12,rfl⟩
def rowsS:List (List Value):=(List.range 13).map fun i=>(tabS.drop (i*2)).take 2
theorem table_of {H:Type} {enc:TypeId × Value→H} {W:World} {held:Bool} {fuel:Nat} {cs:List Value} {x:DataW H × List MemPlace}
  (h:DataW.trod enc Tryz.prog W 0 (fun _=>true) held fuel 143 cs=some x) (hx:x.1=Rows.laid_bolthole_parse_marks):cs=tabS:=by
 obtain ⟨xs,m,rfl,rfl,hcl,hxl,hel⟩:=DataW.trod_array Tryz.underlying143 h;rw [cells_marks] at hcl;rw [cells_mark] at hel;obtain ⟨x0,x1,x2,x3,x4,x5,x6,x7,x8,x9,x10,x11,x12,rfl⟩:=list13 hxl;simp only [Rows.laid_bolthole_parse_marks,List.map_cons,List.map_nil,DataW.agg.injEq,List.cons.injEq,and_true] at hx;obtain ⟨d0,d1,d2,d3,d4,d5,d6,d7,d8,d9,d10,d11,d12⟩:=hx;have r0:=mark_of (hel 0 (by omega)) d0;have r1:=mark_of (hel 1 (by omega)) d1;have r2:=mark_of (hel 2 (by omega)) d2;have r3:=mark_of (hel 3 (by omega)) d3;have r4:=mark_of (hel 4 (by omega)) d4;have r5:=mark_of (hel 5 (by omega)) d5;have r6:=mark_of (hel 6 (by omega)) d6;have r7:=mark_of (hel 7 (by omega)) d7;have r8:=mark_of (hel 8 (by omega)) d8;have r9:=mark_of (hel 9 (by omega)) d9;have r10:=mark_of (hel 10 (by omega)) d10;have r11:=mark_of (hel 11 (by omega)) d11;have r12:=mark_of (hel 12 (by omega)) d12;refine (rows_flatJ rowsS cs (k:=2) hcl (fun i r hr=>?_)).trans (by kernel_rfl);have hi:i<13:=(List.getElem?_eq_some_iff.1 hr).1
 by_cases e0:i=0
 ·subst e0
  exact r0.trans (Option.some.inj hr)
 by_cases e1:i=1
 ·subst e1
  exact r1.trans (Option.some.inj hr)
 by_cases e2:i=2
 ·subst e2
  exact r2.trans (Option.some.inj hr)
 by_cases e3:i=3
 ·subst e3
  exact r3.trans (Option.some.inj hr)
 by_cases e4:i=4
 ·subst e4
  exact r4.trans (Option.some.inj hr)
 by_cases e5:i=5
 ·subst e5
  exact r5.trans (Option.some.inj hr)
 by_cases e6:i=6
 ·subst e6
  exact r6.trans (Option.some.inj hr)
 by_cases e7:i=7
 ·subst e7
  exact r7.trans (Option.some.inj hr)
 by_cases e8:i=8
 ·subst e8
  exact r8.trans (Option.some.inj hr)
 by_cases e9:i=9
 ·subst e9
  exact r9.trans (Option.some.inj hr)
 by_cases e10:i=10
 ·subst e10
  exact r10.trans (Option.some.inj hr)
 by_cases e11:i=11
 ·subst e11
  exact r11.trans (Option.some.inj hr)
 by_cases e12:i=12
 ·subst e12
  exact r12.trans (Option.some.inj hr)
 omega
theorem mtab_of {W:World} {l:List (String × DataW Unit)} (hL:laidMet Tryz.prog l W) (hm:("bolthole/parse.marks",Rows.laid_bolthole_parse_marks)∈l):MTab W:=by
 obtain ⟨g',t',cs,fuel,p,hg',ht',hv,hd⟩:=Lib.laidMet.reads hL hm;obtain rfl:=Option.some.inj ((show Tryz.prog.globalNamed "bolthole/parse.marks"=some 2 by kernel_rfl).symm.trans hg');obtain rfl:=Option.some.inj ((show (Tryz.prog.globals[2]?).map (·.type)=some 143 by kernel_rfl).symm.trans ht');have e:=table_of hd rfl
 have hcell:CellsAt W 2 0 tabS:=by
  intro j u hj;have hc:=World.var?_cell (P:=Tryz.prog) (show Tryz.prog.globalNamed "bolthole/parse.marks"=some 2 by kernel_rfl) hv j;rw [Nat.zero_add,hc,← Array.getElem?_toList,e]
  exact hj
 have h0:=hcell 0 _ rfl;have hlt:=World.block_lt_of_cell? W _ h0;refine ⟨hlt,?_,hcell⟩
 unfold World.cell? at h0
 cases ho:W.heap[2]? with
 | none=>rw [ho] at h0;cases h0
 | some o =>
  refine ⟨o,rfl,?_⟩;rw [ho] at h0
  cases o <;> first|rfl|(simp at h0)
end Go.Proofs.YtmclaaonlhnbmaaGreatDoor.J
namespace Go.Proofs.YtmclaaonlhnbmaaGreatDoor.J
open Go.Lib Go.Proofs.YtmclaaonlhnbmaaGreatDoor.U Go.Proofs.YtmclaaonlhnbmaaGreatDoor.S Go.Proofs.YtmclaaonlhnbmaaGreatDoor.T Go.Proofs.YtmclaaonlhnbmaaGreatDoor.K
def liveS:ByteArray:=⟨#[102,117,110,99,32,102,40,97,32,42,105,110,116,44,32,98,32,91,93,84,41,32,105,110,116,32,123,10,9,120,32,58,61,32,40,97,32,43,32,49,41,32,42,32,45,98,91,50,93,46,99,10,9,114,101,116,117,114,110,32,103,40,120,41,10,125,10]⟩
def liveF:ByteArray:=⟨#[118,97,114,32,120,32,61,32,49]⟩
def liveX:Pt:=.mk [98,105,110,97,114,121] [42] 34 51 [.mk [98,105,110,97,114,121] [43] 35 40 [.mk [105,100] [97] 35 36 [],.mk [110,117,109] [49] 39 40 []],.mk [117,110,97,114,121] [45] 44 51 [.mk [102,105,101,108,100] [99] 45 51 [.mk [105,110,100,101,120] [] 45 49 [.mk [105,100] [98] 45 46 [],.mk [110,117,109] [50] 47 48 []]]]]
def liveD:Pt:=.mk [100,101,102,105,110,101] [] 29 51 [.mk [105,100] [120] 29 30 [],liveX]
def liveP:Pt:=.mk [102,117,110,99] [102] 0 66 [.mk [112,97,114,97,109,115] [] 7 20 [.mk [112,97,114,97,109] [97] 7 13 [.mk [115,116,97,114] [] 9 13 [.mk [110,97,109,101] [105,110,116] 10 13 []]],.mk [112,97,114,97,109] [98] 15 20 [.mk [115,108,105,99,101] [] 17 20 [.mk [110,97,109,101] [84] 19 20 []]]],.mk [114,101,115,117,108,116] [] 22 25 [.mk [110,97,109,101] [105,110,116] 22 25 []],.mk [98,108,111,99,107] [] 26 66 [liveD,.mk [114,101,116,117,114,110] [] 53 64 [.mk [99,97,108,108] [103] 60 64 [.mk [105,100] [120] 62 63 []]]]]
theorem live_ok:okB liveS=true:=by kernel_rfl
theorem fail_ok:okB liveF=true:=by kernel_rfl
theorem live_is:declP (scanB true liveS.toList) 67=(liveP,0,0):=by kernel_rfl
theorem fail_is:declP (scanB true liveF.toList) 9=(zeroP,6,101):=by kernel_rfl
theorem live_deep:deep liveP=8:=by kernel_rfl
end Go.Proofs.YtmclaaonlhnbmaaGreatDoor.J
namespace Go.Proofs.YtmclaaonlhnbmaaGreatDoor.J
open Go.RowKit
open Go.Lib hiding intOf
open U S T
mutual
def sameB:Pt→Pt→Bool
 | .mk k t f e ks,.mk k' t' f' e' ks'=>k==k'&&t==t'&&f==f'&&e==e'&&sameBL ks ks'
def sameBL:List Pt→List Pt→Bool
 | [],[]=>true
 | p :: r,p' :: r'=>sameB p p'&&sameBL r r'
 | _,_=>false
end
mutual
theorem sameB_iff:∀ p q,sameB p q=true ↔ p=q
 | .mk k t f e ks,.mk k' t' f' e' ks'=>by
  rw [sameB];simp only [Bool.and_eq_true,beq_iff_eq,Pt.mk.injEq,sameBL_iff ks ks']
  constructor
  ·rintro ⟨⟨⟨⟨h1,h2⟩,h3⟩,h4⟩,h5⟩;exact ⟨h1,h2,h3,h4,h5⟩
  ·rintro ⟨h1,h2,h3,h4,h5⟩;exact ⟨⟨⟨⟨h1,h2⟩,h3⟩,h4⟩,h5⟩
theorem sameBL_iff:∀ a b,sameBL a b=true ↔ a=b
 | [],[]=>by simp [sameBL]
 | [],_ :: _=>by simp [sameBL]
 | _ :: _,[]=>by simp [sameBL]
 | p :: r,p' :: r'=>by
  rw [sameBL,Bool.and_eq_true,sameB_iff p p',sameBL_iff r r',List.cons.injEq]
end
theorem same_self (p:Pt):sameB p p=true:=(sameB_iff p p).2 rfl
theorem sameBL_drop {l l':List Pt} {i:Nat} (h:i<l.length) (h':i<l'.length):sameBL (l.drop i) (l'.drop i)=(sameB l[i] l'[i]&&sameBL (l.drop (i+1)) (l'.drop (i+1))):=by
 rw [List.drop_eq_getElem_cons h,List.drop_eq_getElem_cons h',sameBL]
theorem sameBL_len:∀ {l l':List Pt},l.length≠l'.length→sameBL l l'=false
 | [],[],h=>absurd rfl h
 | [],_ :: _,_=>by simp [sameBL]
 | _ :: _,[],_=>by simp [sameBL]
 | p :: r,p' :: r',h=>by
  have:=@sameBL_len r r' (by simpa using h)
  simp [sameBL,this]
theorem bstr_list (a:By):(bstr a).toList=a:=by rw [ByteArray.toList_eq];simp [bstr]
def SameC (p:Pt):Prop:=∀ (q:Pt) (lv lv':Value) (R R':Nat→Prop) (w:World),KidsIn w R p lv→KidsIn w R' q lv'→wtP p≤1099511627776→wtP q≤1099511627776 →
 Calls Tryz.prog 10 #[arg p lv,arg q lv'] w fun e w'=>e=.returned (.bool (sameB p q))∧Below w.heap.size w w'
theorem two_new (w:World) (o1 o2:Obj):∃ w1,(w.alloc o1).alloc o2=w1∧w1.heap[w.heap.size]?=some o1∧w1.heap[w.heap.size+1]?=some o2∧Below w.heap.size w w1∧w.heap.size+1<w1.heap.size:=by
 have s1:(w.alloc o1).heap.size=w.heap.size+1:=by simp
 refine ⟨_,rfl,?_,?_,((Below.refl _ _).alloc (Nat.le_refl _) _).alloc (by omega) _,by simp⟩
 ·rw [Below.heap_alloc _ _ _ (by omega)];exact heap_new w o1
 ·rw [← s1];exact heap_new _ o2
set_option maxHeartbeats 8000000 in
theorem same_any:∀ p,SameC p:=Pt.ind fun k t f e ks IH=>fun
 | .mk k' t' f' e' ks',lv,lv',R,R',w,hv,hv',hw,hw'=>by
  obtain ⟨a,c,rfl⟩:=kids_form hv;obtain ⟨a',c',rfl⟩:=kids_form hv';obtain ⟨_,_,hrow⟩:=kids_row hv;obtain ⟨_,_,hrow'⟩:=kids_row hv';have HR:=hid hrow;have HR':=hid hrow';have HIH:=hid IH;rw [wtP] at hw hw';have hlb:ks.length≤1099511627776:=Nat.le_trans (wtL_length ks) (by omega);have hlb':ks'.length≤1099511627776:=Nat.le_trans (wtL_length ks') (by omega);have HWM:=hid (fun v (h:v∈ks)=>Nat.le_trans (wtL_mem h) (show wtL ks≤1099511627776 by omega));have HWM':=hid (fun v (h:v∈ks')=>Nat.le_trans (wtL_mem h) (show wtL ks'≤1099511627776 by omega));obtain ⟨n,hn⟩:∃ n,ks.length=n:=⟨_,rfl⟩;obtain ⟨n',hn'⟩:∃ n,ks'.length=n:=⟨_,rfl⟩;have HN:=hid hn;have HN':=hid hn';rw [hn] at hlb;rw [hn'] at hlb';obtain ⟨kb,hkb⟩:∃ x,bstr k=x:=⟨_,rfl⟩;obtain ⟨tb,htb⟩:∃ x,bstr t=x:=⟨_,rfl⟩;obtain ⟨kb',hkb'⟩:∃ x,bstr k'=x:=⟨_,rfl⟩;obtain ⟨tb',htb'⟩:∃ x,bstr t'=x:=⟨_,rfl⟩
  have hkk:(kb.toList==kb'.toList)=(k==k'):=by rw [← hkb,← hkb',bstr_list,bstr_list]
  have htt:(tb.toList==tb'.toList)=(t==t'):=by rw [← htb,← htb',bstr_list,bstr_list]
  obtain ⟨b,hb⟩:∃ b,sameB (.mk k t f e ks) (.mk k' t' f' e' ks')=b:=⟨_,rfl⟩;rw [hb];rw [sameB] at hb;simp only [arg,five];rw [hn,hn',hkb,htb,hkb',htb'];clear hv hv' hrow hrow' IH hw hw' hn hn';obtain ⟨b1,hb1⟩:∃ b1,(k==k')=b1:=⟨_,rfl⟩;rw [hb1] at hkk hb
  cases b1 with
  | false =>
   simp only [Bool.false_and] at hb;subst hb;have HFin:Hid (Below w.heap.size w ((w.alloc (.cells #[.string kb,.string tb,.int .i64 f,.int .i64 e,.slice a n c] 25)).alloc (.cells #[.string kb',.string tb',.int .i64 f',.int .i64 e',.slice a' n' c'] 25))):=hid (((Below.refl _ _).alloc (Nat.le_refl _) _).alloc (by simp) _);clear htt hb1 hkb htb hkb' htb'
   go_enter Tryz.func10,Tryz.ntmps10
   go_wp2_with fail
   go_ret
   exact ⟨rfl,HFin.out⟩
  | true =>
  obtain rfl:kb=kb':=hkb.symm.trans ((congrArg bstr (show k=k' by simpa using hb1)).trans hkb');clear hkk;obtain ⟨b2,hb2⟩:∃ b2,(t==t')=b2:=⟨_,rfl⟩;rw [hb2] at htt hb
  cases b2 with
  | false =>
   simp only [Bool.true_and,Bool.false_and] at hb;subst hb;have HFin:Hid (Below w.heap.size w ((w.alloc (.cells #[.string kb,.string tb,.int .i64 f,.int .i64 e,.slice a n c] 25)).alloc (.cells #[.string kb,.string tb',.int .i64 f',.int .i64 e',.slice a' n' c'] 25))):=hid (((Below.refl _ _).alloc (Nat.le_refl _) _).alloc (by simp) _);clear hb1 hb2 hkb htb hkb' htb'
   go_enter Tryz.func10,Tryz.ntmps10
   go_wp2_with fail
   go_ret
   exact ⟨rfl,HFin.out⟩
  | true =>
  obtain rfl:tb=tb':=htb.symm.trans ((congrArg bstr (show t=t' by simpa using hb2)).trans htb');clear htt hkb htb hkb' htb';have HFin:Hid (Below w.heap.size w ((w.alloc (.cells #[.string kb,.string tb,.int .i64 f,.int .i64 e,.slice a n c] 25)).alloc (.cells #[.string kb,.string tb,.int .i64 f',.int .i64 e',.slice a' n' c'] 25))):=hid (((Below.refl _ _).alloc (Nat.le_refl _) _).alloc (by simp) _)
  by_cases hf:f=f'
  case neg =>
   have e1:(f==f')=false:=by simpa using hf
   have e2:(f != f')=true:=by simpa using hf
   rw [e1] at hb;simp only [Bool.true_and,Bool.false_and] at hb;subst hb;clear hb1 hb2 hf
   go_enter Tryz.func10,Tryz.ntmps10
   go_wp2_with fail
   go_ret
   exact ⟨rfl,HFin.out⟩
  subst hf
  by_cases he:e=e'
  case neg =>
   have e1:(e==e')=false:=by simpa using he
   have e2:(e != e')=true:=by simpa using he
   rw [e1] at hb;simp only [beq_self_eq_true,Bool.true_and,Bool.false_and] at hb;subst hb;clear hb1 hb2 he
   go_enter Tryz.func10,Tryz.ntmps10
   go_wp2_with fail
   go_ret
   exact ⟨rfl,HFin.out⟩
  subst he;simp only [beq_self_eq_true,Bool.true_and] at hb
  by_cases hl:n=n'
  case neg =>
   rw [sameBL_len (by rw [HN.out,HN'.out];exact hl)] at hb;subst hb
   have e1:((n:Int)==(n':Int))=false:=by simp;omega
   clear hb1 hb2
   go_enter Tryz.func10,Tryz.ntmps10
   go_wp2_with fail
   go_ret
   exact ⟨rfl,HFin.out⟩
  subst hl;have HF:=hid (show sameBL (ks.drop 0) (ks'.drop 0)=b from hb);clear hb hb1 hb2 HFin
  go_enter Tryz.func10,Tryz.ntmps10
  go_wp2_with fail
  obtain ⟨w1,hw1,hq1,hr1,hbw1,hz1⟩:=two_new w (.cells #[.string kb,.string tb,.int .i64 f,.int .i64 e,.slice a n c] 25) (.cells #[.string kb,.string tb,.int .i64 f,.int .i64 e,.slice a' n c'] 25);rw [hw1];have HQ1:=hid hq1;have HR1:=hid hr1;have HB1:=hid hbw1;clear hw1 hq1 hr1 hbw1
  go_loopw [5] (fun iv wr=>∃ i:Nat,iv=.int .i64 i∧i≤n∧Hid (sameBL (ks.drop i) (ks'.drop i)=b)∧Hid (Below w1.heap.size w1 wr)) (fun iv _=>n - (Go.RowKit.intOf iv).toNat)
  case atStart=>exact ⟨0,rfl,Nat.zero_le _,HF,hid (Below.refl _ _)⟩
  case round =>
   obtain ⟨i,rfl,hi,HI,HB⟩:=hrel;have hq:=(HB.out.block w.heap.size (by omega)).trans HQ1.out;have hr:=(HB.out.block (w.heap.size+1) hz1).trans HR1.out;obtain ⟨⟨k0,k1,k2,k3,k4⟩,kf⟩:=cells_five hq;obtain ⟨⟨l0,l1,l2,l3,l4⟩,lf⟩:=cells_five hr;have hz2:=HB.out.size;clear hq hr
   by_cases hlt:i<n
   ·have hll:i<ks.length:=by rw [HN.out];exact hlt
    have hll':i<ks'.length:=by rw [HN'.out];exact hlt
    obtain ⟨g,off,xs,rfl,hg,hc,hp⟩:=HR.out.resolve_left (fun h=>by rw [h] at hll;exact Nat.not_lt_zero _ hll);obtain ⟨g',off',xs',rfl,hg',hc',hp'⟩:=HR'.out.resolve_left (fun h=>by rw [h] at hll';exact Nat.not_lt_zero _ hll');have hb0:Below w.heap.size w wr:=HB1.out.trans (HB.out.mono HB1.out.size);obtain ⟨kk,tt,ff,ee,kks,aa,cc,hK⟩:=kid_at hp hc i hll;obtain ⟨kk',tt',ff',ee',kks',aa',cc',hK'⟩:=kid_at hp' hc' i hll';have hK:=hK.below hb0;have hK':=hK'.below hb0;have hI:=HI.out;rw [sameBL_drop hll hll'] at hI;obtain ⟨b',hb'⟩:∃ b',sameB ks[i] ks'[i]=b':=⟨_,rfl⟩
    have cP:=fun X (hX:Below wr.heap.size wr X)=>(HIH.out ks[i] (List.getElem_mem hll)) ks'[i] (.slice aa kks.length cc) (.slice aa' kks'.length cc') R R' X (by rw [hK.eq];exact kids_below hK.kids hX) (by rw [hK'.eq];exact kids_below hK'.kids hX) (HWM.out _ (List.getElem_mem hll)) (HWM'.out _ (List.getElem_mem hll'))
    rw [hb'] at hI cP;simp only [hK.eq,hK'.eq,arg,five] at cP;have HI2:=hid hI;have j0:=hK.k0;have j1:=hK.k1;have j2:=hK.k2;have j3:=hK.k3;have j4:=hK.k4;have m0:=hK'.k0;have m1:=hK'.k1;have m2:=hK'.k2;have m3:=hK'.k3;have m4:=hK'.k4;obtain ⟨y0,hy0⟩:∃ x,bstr kk=x:=⟨_,rfl⟩;obtain ⟨y1,hy1⟩:∃ x,bstr tt=x:=⟨_,rfl⟩;obtain ⟨y2,hy2⟩:∃ x,bstr kk'=x:=⟨_,rfl⟩;obtain ⟨y3,hy3⟩:∃ x,bstr tt'=x:=⟨_,rfl⟩;obtain ⟨z0,hz0⟩:∃ x,kks.length=x:=⟨_,rfl⟩;obtain ⟨z1,hz1'⟩:∃ x,kks'.length=x:=⟨_,rfl⟩;rw [hy0] at j0 cP;rw [hy1] at j1 cP;rw [hy2] at m0 cP;rw [hy3] at m1 cP;rw [hz0] at j4 cP;rw [hz1'] at m4 cP
    have hi0:(0:Int)≤(i:Int):=by omega
    have hi1:(i:Int)<(n:Int):=by omega
    clear hI hb' hc hp hc' hp' hK hK' hb0 HI hy0 hy1 hy2 hy3 hz0 hz1'
    go_upto_region 6 with fail
    have cl:∀ {X:World} {b o:Nat} {v:Value},Below wr.heap.size wr X→wr.cell? ⟨b,o,none⟩=some v→X.cell? ⟨b,o,none⟩=some v:=fun hX h=>(hX.cell (World.block_lt_of_cell? wr _ h)).trans h
    have hS:∀ X,Below wr.heap.size wr X→Below wr.heap.size wr X∧X.cell? ⟨w.heap.size,4,none⟩=some (.slice (some ⟨g,off,none⟩) n c)∧X.cell? ⟨w.heap.size+1,4,none⟩=some (.slice (some ⟨g',off',none⟩) n c')∧X.cell? ⟨g,off+i*5,none⟩=some (.string y0)∧X.cell? ⟨g,off+i*5+1,none⟩=some (.string y1)∧X.cell? ⟨g,off+i*5+2,none⟩=some (.int .i64 ff)∧X.cell? ⟨g,off+i*5+3,none⟩=some (.int .i64 ee)∧X.cell? ⟨g,off+i*5+4,none⟩=some (.slice aa z0 cc)∧X.cell? ⟨g',off'+i*5,none⟩=some (.string y2)∧X.cell? ⟨g',off'+i*5+1,none⟩=some (.string y3)∧X.cell? ⟨g',off'+i*5+2,none⟩=some (.int .i64 ff')∧X.cell? ⟨g',off'+i*5+3,none⟩=some (.int .i64 ee')∧X.cell? ⟨g',off'+i*5+4,none⟩=some (.slice aa' z1 cc'):=fun X h=>⟨h,cl h k4,cl h l4,cl h j0,cl h j1,cl h j2,cl h j3,cl h j4,cl h m0,cl h m1,cl h m2,cl h m3,cl h m4⟩
    obtain ⟨d0,d1,d2,d3,d4,d5,d6,d7,d8,d9,d10,d11,d12⟩:=hS wr.drew (Below.refl _ _).drew
    have cS:∀ X,(Below wr.heap.size wr X∧X.cell? ⟨w.heap.size,4,none⟩=some (.slice (some ⟨g,off,none⟩) n c)∧X.cell? ⟨w.heap.size+1,4,none⟩=some (.slice (some ⟨g',off',none⟩) n c')∧X.cell? ⟨g,off+i*5,none⟩=some (.string y0)∧X.cell? ⟨g,off+i*5+1,none⟩=some (.string y1)∧X.cell? ⟨g,off+i*5+2,none⟩=some (.int .i64 ff)∧X.cell? ⟨g,off+i*5+3,none⟩=some (.int .i64 ee)∧X.cell? ⟨g,off+i*5+4,none⟩=some (.slice aa z0 cc)∧X.cell? ⟨g',off'+i*5,none⟩=some (.string y2)∧X.cell? ⟨g',off'+i*5+1,none⟩=some (.string y3)∧X.cell? ⟨g',off'+i*5+2,none⟩=some (.int .i64 ff')∧X.cell? ⟨g',off'+i*5+3,none⟩=some (.int .i64 ee')∧X.cell? ⟨g',off'+i*5+4,none⟩=some (.slice aa' z1 cc'))→Calls Tryz.prog 10 #[.agg #[.string y0,.string y1,.int .i64 ff,.int .i64 ee,.slice aa z0 cc],.agg #[.string y2,.string y3,.int .i64 ff',.int .i64 ee',.slice aa' z1 cc']] X fun e w'=>e=.returned (.bool b')∧Below wr.heap.size wr w'∧w'.cell? ⟨w.heap.size,4,none⟩=some (.slice (some ⟨g,off,none⟩) n c)∧w'.cell? ⟨w.heap.size+1,4,none⟩=some (.slice (some ⟨g',off',none⟩) n c')∧w'.cell? ⟨g,off+i*5,none⟩=some (.string y0)∧w'.cell? ⟨g,off+i*5+1,none⟩=some (.string y1)∧w'.cell? ⟨g,off+i*5+2,none⟩=some (.int .i64 ff)∧w'.cell? ⟨g,off+i*5+3,none⟩=some (.int .i64 ee)∧w'.cell? ⟨g,off+i*5+4,none⟩=some (.slice aa z0 cc)∧w'.cell? ⟨g',off'+i*5,none⟩=some (.string y2)∧w'.cell? ⟨g',off'+i*5+1,none⟩=some (.string y3)∧w'.cell? ⟨g',off'+i*5+2,none⟩=some (.int .i64 ff')∧w'.cell? ⟨g',off'+i*5+3,none⟩=some (.int .i64 ee')∧w'.cell? ⟨g',off'+i*5+4,none⟩=some (.slice aa' z1 cc'):=fun X hX=>(cP X hX.1).mono (fun e w' h=>⟨h.1,hS w' (hX.1.trans (h.2.mono hX.1.size))⟩)
    have HS:=hid hS;clear hS cl cP k0 k1 k2 k3 k4 kf l0 l1 l2 l3 l4 lf j0 j1 j2 j3 j4 m0 m1 m2 m3 m4
    go_region_held3 (fun X=>Below wr.heap.size wr X∧X.cell? ⟨w.heap.size,4,none⟩=some (.slice (some ⟨g,off,none⟩) n c)∧X.cell? ⟨w.heap.size+1,4,none⟩=some (.slice (some ⟨g',off',none⟩) n c')∧X.cell? ⟨g,off+i*5,none⟩=some (.string y0)∧X.cell? ⟨g,off+i*5+1,none⟩=some (.string y1)∧X.cell? ⟨g,off+i*5+2,none⟩=some (.int .i64 ff)∧X.cell? ⟨g,off+i*5+3,none⟩=some (.int .i64 ee)∧X.cell? ⟨g,off+i*5+4,none⟩=some (.slice aa z0 cc)∧X.cell? ⟨g',off'+i*5,none⟩=some (.string y2)∧X.cell? ⟨g',off'+i*5+1,none⟩=some (.string y3)∧X.cell? ⟨g',off'+i*5+2,none⟩=some (.int .i64 ff')∧X.cell? ⟨g',off'+i*5+3,none⟩=some (.int .i64 ee')∧X.cell? ⟨g',off'+i*5+4,none⟩=some (.slice aa' z1 cc')) (with_reducible (repeat (first|assumption|refine And.intro ?_ ?_))) (first|(with_reducible refine (cS _ ?_).mono ?_;(with_reducible (repeat (first|assumption|refine And.intro ?_ ?_)));rintro e w2 ⟨rfl,hS2⟩))
    have HB2:=hid (HB.out.trans (hS2.1.mono hz2));clear hS2 cS d0 d1 d2 d3 d4 d5 d6 d7 d8 d9 d10 d11 d12
    cases b' with
    | false =>
     have hI:=HI2.out;rw [Bool.false_and] at hI;subst hI
     go_wp2_with fail
     go_ret
     exact ⟨rfl,HB1.out.trans (HB2.out.mono HB1.out.size)⟩
    | true =>
     have hI:=HI2.out;rw [Bool.true_and] at hI;have HI3:=hid hI;clear hI HI2
     go_wp2_with fail
     go_roundw
     case rel=>exact ⟨i+1,by go_num,by omega,HI3,HB2⟩
     case measure=>simp [Go.RowKit.intOf];omega
   ·obtain rfl:i=n:=by omega
    have hI:=HI.out;rw [List.drop_eq_nil_of_le (by rw [HN.out];exact Nat.le_refl _),List.drop_eq_nil_of_le (by rw [HN'.out];exact Nat.le_refl _),sameBL] at hI;subst hI;clear HI
    go_wp2_with fail
    go_ret
    exact ⟨rfl,HB1.out.trans (HB.out.mono HB1.out.size)⟩
theorem deepL_snoc:∀ (a:List Pt) (p:Pt),deepL (a++[p])=max (deepL a) (deep p)
 | [],p=>by rw [List.nil_append,deepL,deepL,deepL];omega
 | x :: r,p=>by rw [List.cons_append,deepL,deepL,deepL_snoc r p];omega
mutual
theorem deep_wt:∀ p,deep p≤wtP p
 | .mk k t f e ks=>by have:=deepL_wt ks;rw [deep,wtP];omega
theorem deepL_wt:∀ l,deepL l≤wtL l
 | []=>by rw [deepL];exact Nat.zero_le _
 | p :: r=>by have:=deep_wt p;have:=deepL_wt r;rw [deepL,wtL];omega
end
def DeepC (p:Pt):Prop:=∀ (lv:Value) (R:Nat→Prop) (w:World),KidsIn w R p lv→wtP p≤1099511627776 →
 Calls Tryz.prog 26 #[arg p lv] w fun e w'=>e=.returned (.int .i64 (deep p))∧Below w.heap.size w w'
set_option maxHeartbeats 4000000 in
theorem refDeep_any:∀ p,DeepC p:=Pt.ind fun k t f e ks IH lv R w hv hw=>by
 obtain ⟨a,c,rfl⟩:=kids_form hv;obtain ⟨_,hcap,hrow⟩:=kids_row hv;have HR:=hid hrow;have HIH:=hid IH;rw [wtP] at hw;have hlb:ks.length≤1099511627776:=Nat.le_trans (wtL_length ks) (by omega);have HWM:=hid (fun v (h:v∈ks)=>Nat.le_trans (wtL_mem h) (show wtL ks≤1099511627776 by omega));have HDW:=hid (show deepL ks≤1099511627776 by have:=deepL_wt ks;omega)
 have hD:deep (.mk k t f e ks)=deepL ks+1:=by rw [deep]
 rw [hD];obtain ⟨n,hn⟩:∃ n,ks.length=n:=⟨_,rfl⟩;have HN:=hid hn;simp only [arg,five];rw [hn];rw [hn] at hlb;obtain ⟨kb,hkb⟩:∃ x,bstr k=x:=⟨_,rfl⟩;obtain ⟨tb,htb⟩:∃ x,bstr t=x:=⟨_,rfl⟩;rw [hkb,htb];clear hv hrow IH hw hn hcap hkb htb hD
 go_enter Tryz.func26,Tryz.ntmps26
 go_wp2_with fail
 obtain ⟨w1,hw1,hq1,hb1,hz1⟩:=new_block w (.cells #[.string kb,.string tb,.int .i64 f,.int .i64 e,.slice a n c] 25);rw [hw1];have HQ1:=hid hq1;have HB1:=hid hb1;clear hq1 hb1 hw1
 go_loopw [3,4] (fun mv iv wr=>∃ i m:Nat,iv=.int .i64 i∧mv=.int .i64 m∧i≤n∧Hid (m=deepL (ks.take i))∧Hid (Below w1.heap.size w1 wr)) (fun _ iv _=>n - (Go.RowKit.intOf iv).toNat)
 case atStart=>exact ⟨0,0,rfl,rfl,Nat.zero_le _,hid (by rw [List.take_zero,deepL]),hid (Below.refl _ _)⟩
 case round =>
  obtain ⟨i,m,rfl,rfl,hi,HM,HB⟩:=hrel;have hq:=(HB.out.block w.heap.size hz1).trans HQ1.out;obtain ⟨⟨k0,k1,k2,k3,k4⟩,kf⟩:=cells_five hq;have hz2:=HB.out.size;clear hq
  by_cases hlt:i<n
  ·have hll:i<ks.length:=by rw [HN.out];exact hlt
   obtain ⟨g,off,xs,rfl,hg,hc,hp⟩:=HR.out.resolve_left (fun h=>by rw [h] at hll;exact Nat.not_lt_zero _ hll);have hb0:Below w.heap.size w wr:=HB1.out.trans (HB.out.mono HB1.out.size);obtain ⟨k',t',f',e',ks',a',c',hK⟩:=kid_at hp hc i hll;have hK:=hK.below hb0;have cP:=(HIH.out ks[i] (List.getElem_mem hll)) (.slice a' ks'.length c') R wr (by rw [hK.eq];exact hK.kids) (HWM.out _ (List.getElem_mem hll));obtain ⟨d',hd'⟩:∃ x,deep ks[i]=x:=⟨_,rfl⟩;have HM2:=hid (show max m d'=deepL (ks.take (i+1)) by rw [List.take_succ_eq_append_getElem hll,deepL_snoc,hd',HM.out]);rw [hd'] at cP;simp only [hK.eq,arg,five] at cP;have j0:=hK.k0;have j1:=hK.k1;have j2:=hK.k2;have j3:=hK.k3;have j4:=hK.k4;clear hd' hc hp hK hb0 HM
   go_wp2_with fail
   refine cP.mono ?_;rintro e w2 ⟨rfl,hb2⟩;have HB2:=hid (HB.out.trans (hb2.mono HB.out.size));clear cP hb2
   have hmx:max (m:Int) (d':Int)=((max m d':Nat):Int):=by omega
   go_wp2_with fail
   go_roundw
   case rel=>exact ⟨i+1,max m d',by go_num,by first|rfl|rw [hmx],by omega,HM2,HB2⟩
   case measure=>simp [Go.RowKit.intOf];omega
  ·obtain rfl:i=n:=by omega
   have hM:=HM.out;rw [List.take_of_length_le (by rw [HN.out];exact Nat.le_refl _)] at hM
   have hmb:m≤1099511627776:=by rw [hM];exact HDW.out
   have HM3:=hid hM;clear HM hM
   go_wp2_with fail
   go_ret
   exact ⟨by rw [← HM3.out];go_num,HB1.out.trans (HB.out.mono HB1.out.size)⟩
end Go.Proofs.YtmclaaonlhnbmaaGreatDoor.J
namespace Go.Proofs.YtmclaaonlhnbmaaGreatDoor.J
open Go.RowKit
open Go.Lib hiding intOf
open U S T
open Go.Proofs.YtmclaaonlhnbmaaGreatDoor.K (MTab DeclPost decl_any declP zeroP)
theorem decl_is (s:ByteArray) (p:Pt) (at' er:Int) (h:declP (scanB (okB s) s.toList) s.size=(p,at',er)) (w:World) (hs:s.size≤600) (hT:Tabs w) (hG:MTab w) :
  Calls Tryz.prog 8 #[.string s] w fun e w'=>∃ lv,e=.returned (.tuple #[arg p lv,.int .i64 at',.int .i64 er])∧KidsIn w' (fun _=>True) p lv∧Below w.heap.size w w':=by
 refine (decl_any s w hs hT hG).mono ?_;rintro e w' ⟨q,a,r,lv,h1,h2,h3,h4⟩;rw [h] at h1
 cases h1
 exact ⟨lv,h2,h3,h4.1⟩
theorem live_told:declP (scanB (okB liveS) liveS.toList) liveS.size=(liveP,0,0):=by rw [live_ok];exact live_is
theorem fail_told:declP (scanB (okB liveF) liveF.toList) liveF.size=(zeroP,6,101):=by rw [fail_ok];exact fail_is
theorem live_cells {W:World} {R:Nat→Prop} {a:Option Addr} {c:Nat} (h:KidsIn W R liveP (.slice a 3 c)) :
  ∃ g off g2 off2 g3 off3 g4 off4 c2 c3 c4,a=some ⟨g,off,none⟩∧W.cell? ⟨g,off+10+4,none⟩=some (.slice (some ⟨g2,off2,none⟩) 2 c2) ∧
   W.cell? ⟨g2,off2,none⟩=some (.string ⟨#[100,101,102,105,110,101]⟩)∧W.cell? ⟨g2,off2+1,none⟩=some (.string ⟨#[]⟩)∧W.cell? ⟨g2,off2+2,none⟩=some (.int .i64 29)∧W.cell? ⟨g2,off2+3,none⟩=some (.int .i64 51)∧W.cell? ⟨g2,off2+4,none⟩=some (.slice (some ⟨g3,off3,none⟩) 2 c3) ∧
   W.cell? ⟨g3,off3+5+1,none⟩=some (.string ⟨#[42]⟩)∧W.cell? ⟨g3,off3+5+2,none⟩=some (.int .i64 34)∧W.cell? ⟨g3,off3+5+4,none⟩=some (.slice (some ⟨g4,off4,none⟩) 2 c4) ∧
   W.cell? ⟨g4,off4+2,none⟩=some (.int .i64 35):=by
 obtain ⟨_,_,h1⟩:=kids_row h;obtain ⟨g,off,xs,rfl,_,hc,hp⟩:=h1.resolve_left (by simp);obtain ⟨k,t,f,e,ks,a2,c2,h2⟩:=kid_at hp hc 2 (by decide);have e2:=h2.eq
 cases e2
 obtain ⟨_,_,h3⟩:=kids_row h2.kids;obtain ⟨g2,off2,xs2,rfl,_,hc2,hp2⟩:=h3.resolve_left (by simp);obtain ⟨k3,t3,f3,e3,ks3,a3,c3,h4⟩:=kid_at hp2 hc2 0 (by decide);have e4:liveD=.mk k3 t3 f3 e3 ks3:=h4.eq
 unfold liveD at e4
 cases e4
 obtain ⟨_,_,h5⟩:=kids_row h4.kids;obtain ⟨g3,off3,xs3,rfl,_,hc3,hp3⟩:=h5.resolve_left (by simp);obtain ⟨k5,t5,f5,e5,ks5,a5,c5,h6⟩:=kid_at hp3 hc3 1 (by decide);have e6:liveX=.mk k5 t5 f5 e5 ks5:=h6.eq
 unfold liveX at e6
 cases e6
 obtain ⟨_,_,h7⟩:=kids_row h6.kids;obtain ⟨g4,off4,xs4,rfl,_,hc4,hp4⟩:=h7.resolve_left (by simp);obtain ⟨k7,t7,f7,e7,ks7,a7,c7,h8⟩:=kid_at hp4 hc4 0 (by decide);have e8:=h8.eq
 cases e8
 have z0:=h4.k0;have z1:=h4.k1;have z2:=h4.k2;have z3:=h4.k3;have z4:=h4.k4;have z5:=h8.k2;rw [Nat.zero_mul,Nat.add_zero] at z0 z1 z2 z3 z4 z5
 exact ⟨g,off,g2,off2,g3,off3,g4,off4,c2,c3,c5,rfl,h2.k4,z0,z1,z2,z3,z4,h6.k1,h6.k2,h6.k4,z5⟩
theorem live_read (w:World) (hT:Tabs w) (hG:MTab w):Calls Tryz.prog 8 #[.string liveS] w fun e w'=>∃ a c,e=.returned (.tuple #[.agg #[.string ⟨#[102,117,110,99]⟩,.string ⟨#[102]⟩,.int .i64 0,.int .i64 66,.slice a 3 c],.int .i64 0,.int .i64 0])∧KidsIn w' (fun _=>True) liveP (.slice a 3 c)∧Below w.heap.size w w':=by
 refine (decl_is liveS liveP 0 0 live_told w (by decide) hT hG).mono ?_;rintro e w' ⟨lv,rfl,h1,h2⟩;obtain ⟨a,c,rfl⟩:=kids_form (show KidsIn w' _ (.mk _ _ _ _ _) lv from h1)
 exact ⟨a,c,rfl,h1,h2⟩
theorem fail_read (w:World) (hT:Tabs w) (hG:MTab w):Calls Tryz.prog 8 #[.string liveF] w fun e w'=>∃ a c,e=.returned (.tuple #[.agg #[.string ⟨#[]⟩,.string ⟨#[]⟩,.int .i64 0,.int .i64 0,.slice a 0 c],.int .i64 6,.int .i64 101])∧Below w.heap.size w w':=by
 refine (decl_is liveF zeroP 6 101 fail_told w (by decide) hT hG).mono ?_;rintro e w' ⟨lv,rfl,h1,h2⟩;obtain ⟨a,c,rfl⟩:=kids_form (show KidsIn w' _ (.mk _ _ _ _ _) lv from h1)
 exact ⟨a,c,rfl,h2⟩
theorem live_wt:wtP liveP≤1099511627776:=by decide
set_option maxHeartbeats 8000000 in
set_option maxRecDepth 20000 in
theorem alive_any (w:World) (hT:Tabs w) (hG:MTab w):Calls Tryz.prog 7 #[] w fun e w'=>e=.returned (.bool true)∧Below w.heap.size w w':=by
 have c1:=live_read w hT hG;have HT:=hid hT;have HG:=hid hG;clear hT hG
 go_enter Tryz.func7,Tryz.ntmps7
 go_wp2_with fail
 refine c1.mono ?_;rintro e w1 ⟨a,c,rfl,hk1,hb1⟩;have HK1:=hid hk1;have HB1:=hid hb1
 have cD:∀ X,Below w1.heap.size w1 X→Calls Tryz.prog 17 #[.agg #[.string ⟨#[102,117,110,99]⟩,.string ⟨#[102]⟩,.int .i64 0,.int .i64 66,.slice a 3 c]] X fun e w'=>e=.returned (.int .i64 8)∧Below X.heap.size X w':=fun X hX=>by
  have h:=deep_any liveP (kids_below hk1 hX) live_wt;rw [live_deep] at h
  exact h
 have HD:=hid cD;clear c1 hk1 hb1 cD
 go_upto_region 2 with fail
 obtain ⟨w2,hw2,hq2,hb2,hz2⟩:=new_block w1 (.cells #[.string ⟨#[102,117,110,99]⟩,.string ⟨#[102]⟩,.int .i64 0,.int .i64 66,.slice a 3 c] 25);rw [hw2];obtain ⟨B,hB⟩:∃ B,w1.heap.size=B:=⟨_,rfl⟩;have HBE:=hid hB;rw [hB] at hq2 hb2 hz2 ⊢;have HQ2:=hid hq2;have HB2:=hid hb2;have HZ2:=hid hz2;have c2:=fail_read w2 (HT.out.later (HB1.out.trans (hb2.mono (by have:=HB1.out.size;omega)))) (HG.out.later (HB1.out.trans (hb2.mono (by have:=HB1.out.size;omega))));clear hw2 hq2 hb2 hz2 hB
 go_wp2_with fail
 refine c2.mono ?_;rintro e w3 ⟨a',c',rfl,hb3⟩;have HB3:=hid (HB2.out.trans (hb3.mono (by rw [← HBE.out];exact HB2.out.size)));have HQ3:=hid ((hb3.block _ HZ2.out).trans HQ2.out);have HZ3:=hid (Nat.lt_of_lt_of_le HZ2.out hb3.size);clear c2 hb3
 go_upto_region 3 with fail
 obtain ⟨w4,hw4,hq4,hb4,hz4⟩:=new_block w3 (.cells #[.string ⟨#[]⟩,.string ⟨#[]⟩,.int .i64 0,.int .i64 0,.slice a' 0 c'] 25);rw [hw4];have HB4:=hid (HB3.out.trans (hb4.mono (by rw [← HBE.out];exact HB3.out.size)));have HQ4:=hid ((hb4.block _ HZ3.out).trans HQ3.out);have HZ4:=hid (Nat.lt_of_lt_of_le HZ3.out hb4.size);clear hw4 hq4 hb4 hz4;obtain ⟨⟨q0,q1,q2,q3,q4⟩,qf⟩:=cells_five HQ4.out;have hk4:=kids_below HK1.out (show Below w1.heap.size w1 w4 by rw [HBE.out];exact HB4.out);obtain ⟨g,off,g2,off2,g3,off3,g4,off4,c2,c3,c4,rfl,z0,z1,z2,z3,z4,z5,z6,z7,z8,z9⟩:=live_cells hk4
 have HKC:Hid (∀ X,Below w4.heap.size w4 X→X.cell? ⟨g3,off3+5+1,none⟩=some (.string ⟨#[42]⟩)∧X.cell? ⟨g3,off3+5+2,none⟩=some (.int .i64 34)∧X.cell? ⟨g3,off3+5+4,none⟩=some (.slice (some ⟨g4,off4,none⟩) 2 c4)∧X.cell? ⟨g4,off4+2,none⟩=some (.int .i64 35)):=hid (fun X hX =>
  have cl:∀ {b o:Nat} {v:Value},w4.cell? ⟨b,o,none⟩=some v→X.cell? ⟨b,o,none⟩=some v:=fun h=>(hX.cell (World.block_lt_of_cell? w4 _ h)).trans h
  ⟨cl z6,cl z7,cl z8,cl z9⟩)
 clear hk4
 go_upto_region 6 with fail
 obtain ⟨w5,hw5,hq5,hb5,hz5⟩:=new_block w4 (.cells #[.string ⟨#[100,101,102,105,110,101]⟩,.string ⟨#[]⟩,.int .i64 29,.int .i64 51,.slice (some ⟨g3,off3,none⟩) 2 c3] 25);rw [hw5];have HB5:=hid (HB4.out.trans (hb5.mono (by rw [← HBE.out];exact HB4.out.size)));have hq1:=(hb5.block _ HZ4.out).trans HQ4.out;have cD5:=HD.out w5 (by rw [HBE.out];exact HB5.out);obtain ⟨⟨q0,q1,q2,q3,q4⟩,qf⟩:=cells_five hq1;obtain ⟨⟨m0,m1,m2,m3,m4⟩,mf⟩:=cells_five hq5;obtain ⟨z6,z7,z8,z9⟩:=HKC.out w5 hb5;clear hw5 hq5 hb5 hz5 hq1 z0 z1 z2 z3 z4 z5
 go_wp2_with fail
 refine cD5.mono ?_;rintro e w6 ⟨rfl,hb6⟩;have HB6:=hid (HB1.out.trans ((show Below w1.heap.size w1 w6 by rw [HBE.out];exact HB5.out.trans (hb6.mono (by rw [← HBE.out];exact HB5.out.size))).mono HB1.out.size));clear cD5 hb6 m0 m1 m2 m3 m4 q0 q1 q2 q3 q4 z6 z7 z8 z9
 go_wp2_with fail
 go_ret
 exact ⟨rfl,HB6.out⟩
end Go.Proofs.YtmclaaonlhnbmaaGreatDoor.J
namespace Go.Proofs.YtmclaaonlhnbmaaGreatDoor.T
open Go.RowKit
open Go.Lib hiding intOf
open U S L
structure Mv (B d:Nat) (w w':World):Prop where
 os:w'.os=w.os
 tape:w'.tape=w.tape
 output:w'.output=w.output
 size:w.heap.size≤w'.heap.size
 block:∀ k,k<B→k≠d→w'.heap[k]?=w.heap[k]?
theorem Mv.refl (B d:Nat) (w:World):Mv B d w w:=⟨rfl,rfl,rfl,Nat.le_refl _,fun _ _ _=>rfl⟩
theorem Mv.trans {B d:Nat} {a b c:World} (h:Mv B d a b) (k:Mv B d b c):Mv B d a c :=
 ⟨k.os.trans h.os,k.tape.trans h.tape,k.output.trans h.output,Nat.le_trans h.size k.size,fun i hi hd=>(k.block i hi hd).trans (h.block i hi hd)⟩
theorem Mv.mono {B B' d:Nat} {w w':World} (h:Mv B d w w') (hB:B'≤B):Mv B' d w w':=⟨h.os,h.tape,h.output,h.size,fun k hk=>h.block k (Nat.lt_of_lt_of_le hk hB)⟩
theorem Mv.of_below {B d:Nat} {w w':World} (h:Below B w w'):Mv B d w w':=⟨h.os,h.tape,h.output,h.size,fun k hk _=>h.block k hk⟩
theorem Mv.drewN {B d:Nat} {a w:World} (h:Mv B d a w) (n:Nat):Mv B d a (w.drewN n):=⟨h.os,h.tape,h.output,h.size,h.block⟩
theorem Mv.setCell {B d:Nat} {a w:World} (h:Mv B d a w) (i:Nat) (v:Value):Mv B d a (w.setCell ⟨d,i,none⟩ v):=by
 refine ⟨h.os,h.tape,h.output,by simpa using h.size,fun k hk hd=>?_⟩;rw [Below.heap_setCell _ _ _ _ hd]
 exact h.block k hk hd
theorem Mv.alloc {B d:Nat} {a w:World} (h:Mv B d a w) (hB:B≤w.heap.size) (o:Obj):Mv B d a (w.alloc o) :=
 h.trans (Mv.of_below ((Below.refl B w).alloc hB o))
theorem Mv.below {B d:Nat} {w w':World} (h:Mv B d w w') (hd:B≤d):Below B w w':=⟨h.os,h.tape,h.output,h.size,fun k hk=>h.block k hk (by omega)⟩
def Rd (d:Nat) (lv:Value) (i:Nat) (b:Bool) (W:World):Prop:=W.heap[d]?=some (.cells #[lv,.int .i64 i,.bool b] 44 (0,0))
def Tk (d:Nat) (L:List TokP) (lv:Value) (W:World):Prop:=∃ la cap,lv=.slice la L.length cap∧(L=[]∨∃ g off,la=some ⟨g,off,none⟩∧g≠d∧g<W.heap.size∧ToksAt W g off L)
section
variable {d:Nat} {lv:Value} {i:Nat} {b:Bool} {w w':World} {L:List TokP}
theorem Rd.c0 (h:Rd d lv i b w):w.cell? ⟨d,0,none⟩=some lv:=by unfold Rd at h;simp [World.cell?,h]
theorem Rd.c1 (h:Rd d lv i b w):w.cell? ⟨d,1,none⟩=some (.int .i64 i):=by unfold Rd at h;simp [World.cell?,h]
theorem Rd.c2 (h:Rd d lv i b w):w.cell? ⟨d,2,none⟩=some (.bool b):=by unfold Rd at h;simp [World.cell?,h]
theorem Rd.f1 (h:Rd d lv i b w):w.frozen? ⟨d,1,none⟩=false:=by unfold Rd at h;simp [World.frozen?,h]
theorem Rd.f2 (h:Rd d lv i b w):w.frozen? ⟨d,2,none⟩=false:=by unfold Rd at h;simp [World.frozen?,h]
theorem Rd.lt (h:Rd d lv i b w):d<w.heap.size:=(Array.getElem?_eq_some_iff.1 h).1
theorem Rd.set1 (h:Rd d lv i b w) {j:Nat} (x:Int) (hx:x=j):Rd d lv j b (w.setCell ⟨d,1,none⟩ (.int .i64 x)):=by subst hx;exact Go.Joins.block_setCell h _
theorem Rd.set2 (h:Rd d lv i b w) (x:Bool):Rd d lv i x (w.setCell ⟨d,2,none⟩ (.bool x)):=Go.Joins.block_setCell h _
theorem Rd.below (h:Rd d lv i b w) (hb:Below w.heap.size w w'):Rd d lv i b w':=(hb.block d h.lt).trans h
theorem Rd.drewN (h:Rd d lv i b w) (n:Nat):Rd d lv i b (w.drewN n):=h
theorem Tk.mv {B:Nat} (h:Tk d L lv w) (hm:Mv B d w w') (hB:w.heap.size≤B):Tk d L lv w':=by
 obtain ⟨la,cap,h1,h2⟩:=h;refine ⟨la,cap,h1,?_⟩
 rcases h2 with h2|⟨g,off,h3,h4,h5,h6⟩
 ·exact .inl h2
 ·refine .inr ⟨g,off,h3,h4,Nat.lt_of_lt_of_le h5 hm.size,fun j u hj=>?_⟩
  have h7:=h6 j u hj;have h8:=hm.block g (by omega) h4
  unfold World.cell? at h7 ⊢
  rw [h8];exact h7
end
theorem tk_word {d:Nat} {lv:Value} {w:World} {L:List TokP} {i:Nat} (h:Tk d L lv w) (hi:i<L.length):∃ g off cap,lv=.slice (some ⟨g,off,none⟩) L.length cap∧g≠d ∧
  w.cell? ⟨g,off+i*4,none⟩=some (.int .i64 L[i].w)∧w.cell? ⟨g,off+i*4+1,none⟩=some (.string ⟨L[i].t.toArray⟩)∧w.cell? ⟨g,off+i*4+2,none⟩=some (.int .i64 L[i].f)∧w.cell? ⟨g,off+i*4+3,none⟩=some (.int .i64 L[i].e):=by
 obtain ⟨la,cap,rfl,h2⟩:=h;obtain ⟨g,off,rfl,h4,h5,h6⟩:=h2.resolve_left (fun e=>by rw [e] at hi;exact Nat.not_lt_zero _ hi);obtain ⟨c0,c1,c2,c3⟩:=tok_at i h6 hi
 exact ⟨g,off,cap,rfl,h4,c0,c1,c2,c3⟩
def Idle (R:Value) (w:World) (e:Ending) (w':World):Prop:=e=.returned R∧∃ k,w'=w.drewN k
theorem isT_out {L:List TokP} (x:By) {i:Nat} (h:¬ i<L.length):isT L x i=false:=by
 unfold isT;rw [List.getElem?_eq_none (by omega)]
theorem isT_in {L:List TokP} (x:By) {i:Nat} (h:i<L.length):isT L x i=(L[i].t==x&&(L[i].w==4||L[i].w==3)):=by
 unfold isT;rw [List.getElem?_eq_getElem h]
theorem comesT_out {L:List TokP} (x:Int) {i:Nat} (h:¬ i<L.length):comesT L x i=false:=by
 unfold comesT;rw [List.getElem?_eq_none (by omega)]
theorem comesT_in {L:List TokP} (x:Int) {i:Nat} (h:i<L.length):comesT L x i=(L[i].w==x):=by
 unfold comesT;rw [List.getElem?_eq_getElem h]
set_option maxHeartbeats 8000000 in
set_option maxRecDepth 20000 in
theorem is_any (d:Nat) (L:List TokP) (lv:Value) (i:Nat) (b:Bool) (x:By) (w:World) (hR:Rd d lv i b w) (hT:Tk d L lv w) :
  Calls Tryz.prog 21 #[.pointer (some ⟨d,0,none⟩),.string (bstr x)] w (Idle (.bool (!b&&isT L x i)) w):=by
 have c0:=hR.c0;have c1:=hR.c1;have c2:=hR.c2;obtain ⟨R,hR2⟩:∃ R,(!b&&isT L x i)=R:=⟨_,rfl⟩;rw [hR2]
 cases b
 ·by_cases hi:i<L.length
  ·obtain ⟨g,off,cap,rfl,hgd,k0,k1,_,_⟩:=tk_word hT hi
   rw [isT_in x hi,Bool.not_false,Bool.true_and] at hR2;generalize L[i]=t at k0 k1 hR2;obtain ⟨tw,tt,tf,te⟩:=t;dsimp only at k0 k1 hR2;obtain ⟨y,hy⟩:∃ y:ByteArray,(⟨tt.toArray⟩:ByteArray)=y:=⟨_,rfl⟩;obtain ⟨z,hz⟩:∃ y:ByteArray,bstr x=y:=⟨_,rfl⟩
   have hyl:tt=y.toList:=by rw [← hy,ByteArray.toList_eq]
   have hzl:x=z.toList:=by rw [← hz,ByteArray.toList_eq];rfl
   rw [hy] at k1;rw [hz];rw [hyl,hzl] at hR2;obtain ⟨n,hn⟩:∃ n,L.length=n:=⟨_,rfl⟩;rw [hn] at hi c0;clear hR hT hy hz hyl hzl hn;obtain ⟨e1,he1⟩:∃ e,(y.toList==z.toList)=e:=⟨_,rfl⟩;obtain ⟨e2,he2⟩:∃ e,(tw==4)=e:=⟨_,rfl⟩;obtain ⟨e3,he3⟩:∃ e,(tw==3)=e:=⟨_,rfl⟩;rw [he1,he2,he3] at hR2
   cases e1
   ·have HF:=hid (show R=false by rw [← hR2];rfl)
    clear hR2
    go_enter Tryz.func21,Tryz.ntmps21
    go_upto_region 1 with fail
    go_quiet (fail)
    go_wp2_with fail
    go_ret
    exact ⟨by rw [HF.out];rfl,_,rfl⟩
   ·cases e2
    ·cases e3
     ·have HF:=hid (show R=false by rw [← hR2];rfl)
      clear hR2
      go_enter Tryz.func21,Tryz.ntmps21
      go_upto_region 1 with fail
      go_quiet (fail)
      go_wp2_with fail
      go_ret
      exact ⟨by rw [HF.out];rfl,_,rfl⟩
     ·have HF:=hid (show R=true by rw [← hR2];rfl)
      clear hR2
      go_enter Tryz.func21,Tryz.ntmps21
      go_upto_region 1 with fail
      go_quiet (fail)
      go_wp2_with fail
      go_ret
      exact ⟨by rw [HF.out];rfl,_,rfl⟩
    ·have HF:=hid (show R=true by rw [← hR2];rfl)
     clear hR2
     go_enter Tryz.func21,Tryz.ntmps21
     go_upto_region 1 with fail
     go_quiet (fail)
     go_wp2_with fail
     go_ret
     exact ⟨by rw [HF.out];rfl,_,rfl⟩
  ·obtain ⟨la,cap,rfl,_⟩:=hT
   have HF:=hid (show R=false by rw [← hR2,isT_out x hi];rfl);obtain ⟨n,hn⟩:∃ n,L.length=n:=⟨_,rfl⟩;rw [hn] at hi c0;clear hR2 hR hn
   go_enter Tryz.func21,Tryz.ntmps21
   go_upto_region 1 with fail
   go_quiet (fail)
   go_wp2_with fail
   go_ret
   exact ⟨by rw [HF.out];rfl,_,rfl⟩
 ·have HF:=hid (show R=false by rw [← hR2];rfl)
  clear hR2 hR hT
  go_enter Tryz.func21,Tryz.ntmps21
  go_upto_region 1 with fail
  go_quiet (fail)
  go_wp2_with fail
  go_ret
  exact ⟨by rw [HF.out];rfl,_,rfl⟩
end Go.Proofs.YtmclaaonlhnbmaaGreatDoor.T
namespace Go.Proofs.YtmclaaonlhnbmaaGreatDoor.T
open Go.RowKit
open Go.Lib hiding intOf
open U S L
def Out.at {α:Type}:Out α→Nat
 | .ok _ i=>i
 | .bad i=>i
def Out.isBad {α:Type}:Out α→Bool
 | .ok _ _=>false
 | .bad _=>true
def start {α:Type} (b:Bool) (i:Nat) (o:Out α):Out α:=if b then .bad i else o
def Went (d:Nat) (lv:Value) (i:Nat) (b:Bool) (w w':World):Prop:=Rd d lv i b w'∧Mv w.heap.size d w w'
theorem Idle.went {R:Value} {d:Nat} {lv:Value} {i:Nat} {b:Bool} {w w':World} {e:Ending} (h:Idle R w e w') (hR:Rd d lv i b w):e=.returned R∧Went d lv i b w w':=by
 obtain ⟨h1,k,rfl⟩:=h
 exact ⟨h1,hR.drewN k,(Mv.refl _ _ _).drewN k⟩
set_option maxHeartbeats 8000000 in
set_option maxRecDepth 20000 in
theorem comes_any (d:Nat) (L:List TokP) (lv:Value) (i:Nat) (b:Bool) (x:Int) (w:World) (hR:Rd d lv i b w) (hT:Tk d L lv w) :
  Calls Tryz.prog 54 #[.pointer (some ⟨d,0,none⟩),.int .i64 x] w (Idle (.bool (!b&&comesT L x i)) w):=by
 have c0:=hR.c0;have c1:=hR.c1;have c2:=hR.c2;obtain ⟨R,hR2⟩:∃ R,(!b&&comesT L x i)=R:=⟨_,rfl⟩;rw [hR2]
 cases b
 ·by_cases hi:i<L.length
  ·obtain ⟨g,off,cap,rfl,hgd,k0,_,_,_⟩:=tk_word hT hi
   rw [comesT_in x hi,Bool.not_false,Bool.true_and] at hR2;generalize L[i]=t at k0 hR2;obtain ⟨tw,tt,tf,te⟩:=t;dsimp only at k0 hR2;obtain ⟨n,hn⟩:∃ n,L.length=n:=⟨_,rfl⟩;rw [hn] at hi c0;clear hR hT hn
   cases R
   ·go_enter Tryz.func54,Tryz.ntmps54
    go_upto_region 1 with fail
    go_quiet (fail)
    go_wp2_with fail
    go_ret
    exact ⟨rfl,_,rfl⟩
   ·go_enter Tryz.func54,Tryz.ntmps54
    go_upto_region 1 with fail
    go_quiet (fail)
    go_wp2_with fail
    go_ret
    exact ⟨rfl,_,rfl⟩
  ·obtain ⟨la,cap,rfl,_⟩:=hT
   have hF:R=false:=by rw [← hR2,comesT_out x hi];rfl
   subst hF;obtain ⟨n,hn⟩:∃ n,L.length=n:=⟨_,rfl⟩;rw [hn] at hi c0;clear hR2 hR hn
   go_enter Tryz.func54,Tryz.ntmps54
   go_upto_region 1 with fail
   go_quiet (fail)
   go_wp2_with fail
   go_ret
   exact ⟨rfl,_,rfl⟩
 ·have hF:R=false:=by rw [← hR2];rfl
  subst hF;clear hR2 hR hT
  go_enter Tryz.func54,Tryz.ntmps54
  go_upto_region 1 with fail
  go_quiet (fail)
  go_wp2_with fail
  go_ret
  exact ⟨rfl,_,rfl⟩
theorem drew_two (w:World) (a b:Nat):(w.drewN a).drewN b=w.drewN (a+b):=by simp [World.drewN,Nat.add_comm,Nat.add_left_comm]
set_option maxHeartbeats 8000000 in
set_option maxRecDepth 20000 in
theorem from_any (d:Nat) (L:List TokP) (lv:Value) (i:Nat) (b:Bool) (w:World) (hR:Rd d lv i b w) (hT:Tk d L lv w) :
  Calls Tryz.prog 45 #[.pointer (some ⟨d,0,none⟩)] w (Idle (.int .i64 (fromT L i)) w):=by
 have c0:=hR.c0;have c1:=hR.c1;have hd:=hR.lt
 by_cases hi:i<L.length
 ·obtain ⟨g,off,cap,rfl,hgd,_,_,k2,_⟩:=tk_word hT hi
  have hF:fromT L i=L[i].f:=by unfold fromT;rw [List.getElem?_eq_getElem hi]
  rw [hF];generalize L[i]=t at k2;obtain ⟨tw,tt,tf,te⟩:=t;dsimp only at k2 ⊢;obtain ⟨n,hn⟩:∃ n,L.length=n:=⟨_,rfl⟩;rw [hn] at hi c0;clear hR hT hn hF
  go_enter Tryz.func45,Tryz.ntmps45
  go_upto_region 1 with fail
  go_quiet (fail)
  go_upto_region 2 with fail
  go_quiet (fail)
  go_wp2_with fail
  go_ret
  exact ⟨rfl,_,drew_two _ _ _⟩
 ·obtain ⟨la,cap,rfl,_⟩:=hT
  have hF:fromT L i=0:=by unfold fromT;rw [List.getElem?_eq_none (by omega)]
  rw [hF];obtain ⟨n,hn⟩:∃ n,L.length=n:=⟨_,rfl⟩;rw [hn] at hi c0;clear hR hn hF
  go_enter Tryz.func45,Tryz.ntmps45
  go_upto_region 1 with fail
  go_quiet (fail)
  go_wp2_with fail
  go_ret
  exact ⟨rfl,_,rfl⟩
set_option maxHeartbeats 8000000 in
set_option maxRecDepth 20000 in
theorem to_any (d:Nat) (L:List TokP) (lv:Value) (i:Nat) (b:Bool) (w:World) (hR:Rd d lv i b w) (hT:Tk d L lv w) (hi:i≤L.length) (hL:L.length≤1000000) :
  Calls Tryz.prog 101 #[.pointer (some ⟨d,0,none⟩)] w (Idle (.int .i64 (toT L i)) w):=by
 have c0:=hR.c0;have c1:=hR.c1;have hd:=hR.lt
 by_cases h0:i=0
 ·subst h0
  have hF:toT L 0=0:=rfl;rw [hF];obtain ⟨la,cap,rfl,_⟩:=hT;clear hR hF hi
  go_enter Tryz.func101,Tryz.ntmps101
  go_wp2_with fail
  go_ret
  exact ⟨rfl,0,rfl⟩
 ·obtain ⟨j,rfl⟩:∃ j,i=j+1:=⟨i - 1,by omega⟩
  have hj:j<L.length:=by omega
  obtain ⟨g,off,cap,rfl,hgd,_,_,_,k3⟩:=tk_word hT hj
  have hF:toT L (j+1)=L[j].e:=by unfold toT;rw [if_neg (by omega),Nat.add_sub_cancel,List.getElem?_eq_getElem hj]
  rw [hF];generalize L[j]=t at k3;obtain ⟨tw,tt,tf,te⟩:=t;dsimp only at k3 ⊢;obtain ⟨n,hn⟩:∃ n,L.length=n:=⟨_,rfl⟩;rw [hn] at hj hi c0 hL;obtain ⟨m,hm⟩:∃ m,j+1=m:=⟨_,rfl⟩;rw [hm] at c1
  have hm0:0<m:=by omega
  have hi1:IntKind.i64.wrap ((m:Int) - 1)=(j:Int):=(IntWalk.i64_in _ (by omega)).trans (by omega)
  have hj0:(0:Int)≤(j:Int):=by omega
  have hj1:(j:Int)<(n:Int):=by omega
  clear hR hT hn hF hm h0
  go_enter Tryz.func101,Tryz.ntmps101
  go_upto_region 2 with fail
  go_quiet (fail)
  go_wp2_with fail
  go_ret
  exact ⟨rfl,_,rfl⟩
end Go.Proofs.YtmclaaonlhnbmaaGreatDoor.T
namespace Go.Proofs.YtmclaaonlhnbmaaGreatDoor.T
open Go.RowKit
open Go.Lib hiding intOf
open U S L
set_option maxHeartbeats 8000000 in
set_option maxRecDepth 20000 in
theorem take_any (d:Nat) (L:List TokP) (lv:Value) (i:Nat) (b:Bool) (x:By) (w:World) (hR:Rd d lv i b w) (hT:Tk d L lv w) (hi:i≤1000000) :
  Calls Tryz.prog 48 #[.pointer (some ⟨d,0,none⟩),.string (bstr x)] w fun e w'=>e=.returned (.bool (!b&&isT L x i))∧Went d lv (if (!b&&isT L x i)=true then i+1 else i) b w w':=by
 have c1:=is_any d L lv i b x w hR hT;obtain ⟨R,hR2⟩:∃ R,(!b&&isT L x i)=R:=⟨_,rfl⟩;rw [hR2] at c1 ⊢;have HR:=hid hR;generalize bstr x=y at c1 ⊢;clear hR2 hT
 cases R
 ·go_enter Tryz.func48,Tryz.ntmps48
  go_wp2_with fail
  refine c1.mono ?_;intro e w1 h1;obtain ⟨rfl,hw⟩:=h1.went HR.out;have HW:=hid hw;clear c1 h1 hw
  go_wp2_with fail
  go_ret
  exact ⟨rfl,HW.out⟩
 ·go_enter Tryz.func48,Tryz.ntmps48
  go_wp2_with fail
  refine c1.mono ?_;intro e w1 h1;obtain ⟨rfl,hw⟩:=h1.went HR.out;have k1:=hw.1.c1;have f1:=hw.1.f1;have HW:=hid hw;have e1:IntKind.i64.wrap ((i:Int)+1)=(i:Int)+1:=IntWalk.i64_in _ (by omega);clear c1 h1 hw hR
  go_wp2_with fail
  go_ret
  exact ⟨rfl,HW.out.1.set1 _ (by simp),HW.out.2.setCell 1 _⟩
theorem Went.at {d:Nat} {lv:Value} {i i':Nat} {b b':Bool} {w w':World} (h:Went d lv i b w w') (hi:i=i') (hb:b=b'):Went d lv i' b' w w':=by subst hi hb;exact h
set_option maxHeartbeats 8000000 in
set_option maxRecDepth 20000 in
theorem must_any (d:Nat) (L:List TokP) (lv:Value) (i:Nat) (b:Bool) (x:By) (w:World) (hR:Rd d lv i b w) (hT:Tk d L lv w) (hi:i≤1000000) :
  Calls Tryz.prog 46 #[.pointer (some ⟨d,0,none⟩),.string (bstr x)] w fun e w'=>e=.returned (.tuple #[])∧Went d lv (start b i (mustT L x i)).at (start b i (mustT L x i)).isBad w w':=by
 have c1:=take_any d L lv i b x w hR hT hi
 have hs:(start b i (mustT L x i)).at=(if (!b&&isT L x i)=true then i+1 else i)∧(start b i (mustT L x i)).isBad=!(!b&&isT L x i):=by
  unfold start mustT
  cases b <;> cases isT L x i <;> exact ⟨rfl,rfl⟩
 rw [hs.1,hs.2];obtain ⟨R,hR2⟩:∃ R,(!b&&isT L x i)=R:=⟨_,rfl⟩;rw [hR2] at c1 ⊢;have HB:Hid (R=true→b=false):=hid (fun h=>by rw [← hR2] at h;cases b;rfl;cases h);generalize bstr x=y at c1 ⊢;clear hR2 hT hs hR
 cases R
 ·go_enter Tryz.func46,Tryz.ntmps46
  go_wp2_with fail
  refine c1.mono ?_;rintro e w1 ⟨rfl,hw⟩;have k2:=hw.1.c2;have f2:=hw.1.f2;have HW:=hid hw;clear c1 hw
  go_wp2_with fail
  refine bodyPost_end (results_none rfl _ _ _) rfl ?_
  exact ⟨rfl,HW.out.1.set2 true,HW.out.2.setCell 2 _⟩
 ·go_enter Tryz.func46,Tryz.ntmps46
  go_wp2_with fail
  refine c1.mono ?_;rintro e w1 ⟨rfl,hw⟩;have HW:=hid hw;clear c1 hw
  go_wp2_with fail
  refine bodyPost_end (results_none rfl _ _ _) rfl ?_
  exact ⟨rfl,HW.out.at rfl (HB.out trivial)⟩
def nameV:Out By→ByteArray
 | .ok s _=>bstr s
 | .bad _=>⟨#[]⟩
set_option maxHeartbeats 8000000 in
set_option maxRecDepth 20000 in
theorem name_any10 (d:Nat) (L:List TokP) (lv:Value) (i:Nat) (b:Bool) (w:World) (hR:Rd d lv i b w) (hT:Tk d L lv w) (hi:i≤1000000) :
  Calls Tryz.prog 47 #[.pointer (some ⟨d,0,none⟩)] w fun e w'=>e=.returned (.string (nameV (start b i (nameT L i))))∧Went d lv (start b i (nameT L i)).at (start b i (nameT L i)).isBad w w':=by
 have c1:=comes_any d L lv i b 0 w hR hT;obtain ⟨R,hR2⟩:∃ R,(!b&&comesT L 0 i)=R:=⟨_,rfl⟩;rw [hR2] at c1;have HR:=hid hR;have HT:=hid hT
 cases R
 ·have hs:start b i (nameT L i)=.bad i:=by
   unfold start nameT
   cases b
   ·have:comesT L 0 i=false:=by simpa using hR2
    rw [this];rfl
   ·rfl
  rw [hs];clear hR2 hT hs
  go_enter Tryz.func47,Tryz.ntmps47
  go_wp2_with fail
  refine c1.mono ?_;intro e w1 h1;obtain ⟨rfl,hw⟩:=h1.went HR.out;have k2:=hw.1.c2;have f2:=hw.1.f2;have HW:=hid hw;clear c1 h1 hw hR
  go_wp2_with fail
  go_ret
  exact ⟨rfl,HW.out.1.set2 true,HW.out.2.setCell 2 _⟩
 ·have hb:b=false∧comesT L 0 i=true:=by simpa using hR2
  obtain ⟨rfl,hc⟩:=hb
  have hil:i<L.length:=by
   by_cases h:i<L.length
   ·exact h
   ·rw [comesT_out 0 h] at hc;cases hc
  have hs:start false i (nameT L i)=.ok (textT L i) (i+1):=by unfold start nameT;rw [hc];rfl
  have ht:textT L i=L[i].t:=by unfold textT;rw [List.getElem?_eq_getElem hil]
  rw [hs,ht];obtain ⟨tx,htx⟩:∃ tx,L[i].t=tx:=⟨_,rfl⟩;rw [htx];have HTX:=hid htx;clear hR2 hs ht hc htx
  go_enter Tryz.func47,Tryz.ntmps47
  go_wp2_with fail
  refine c1.mono ?_;intro e w1 h1;obtain ⟨rfl,hw⟩:=h1.went HR.out;have k1:=hw.1.c1;have f1:=hw.1.f1;have e1:IntKind.i64.wrap ((i:Int)+1)=(i:Int)+1:=IntWalk.i64_in _ (by omega);have HW:=hid hw;clear c1 h1 hw hR
  go_upto_region 6 with fail
  have hw2:Went d lv (i+1) false w (w1.setCell ⟨d,1,none⟩ (.int .i64 ((i:Int)+1))):=⟨HW.out.1.set1 _ (by simp),HW.out.2.setCell 1 _⟩;have HT2:=HT.out.mv hw2.2 (Nat.le_refl _);obtain ⟨W2,hW2⟩:∃ W2,w1.setCell ⟨d,1,none⟩ (.int .i64 ((i:Int)+1))=W2:=⟨_,rfl⟩;rw [hW2] at hw2 HT2 ⊢;obtain ⟨g,off,cap,rfl,hgd,_,q1,_,_⟩:=tk_word HT2 hil;have q0:=hw2.1.c0;have q5:=hw2.1.c1;have HWW:=hid hw2;rw [HTX.out] at q1;obtain ⟨n,hn⟩:∃ n,L.length=n:=⟨_,rfl⟩;rw [hn] at hil q0;obtain ⟨m,hm⟩:∃ m,i+1=m:=⟨_,rfl⟩;rw [hm] at q5
  have hm0:0<m:=by omega
  have hi1:IntKind.i64.wrap ((m:Int) - 1)=(i:Int):=(IntWalk.i64_in _ (by omega)).trans (by omega)
  have hj0:(0:Int)≤(i:Int):=by omega
  have hj1:(i:Int)<(n:Int):=by omega
  clear hW2 hw2 HT2 k1 f1 hT hm hn
  go_quiet (fail)
  go_wp2_with fail
  go_ret
  exact ⟨rfl,HWW.out.1.drewN _,HWW.out.2.drewN _⟩
theorem semiN_on {L:List TokP} {i:Nat} (h:comesT L 5 i=true):semiN L i=semiN L (i+1)+1:=by
 have hil:i<L.length:=by
  by_cases h1:i<L.length
  ·exact h1
  ·rw [comesT_out 5 h1] at h;cases h
 rw [comesT_in 5 hil] at h
 unfold semiN
 rw [List.drop_eq_getElem_cons hil,List.takeWhile_cons,h]
 simp
theorem semiN_off {L:List TokP} {i:Nat} (h:comesT L 5 i=false):semiN L i=0:=by
 unfold semiN
 by_cases hil:i<L.length
 ·rw [comesT_in 5 hil] at h
  rw [List.drop_eq_getElem_cons hil,List.takeWhile_cons,h]
  rfl
 ·rw [List.drop_of_length_le (by omega)];rfl
theorem semiN_le (L:List TokP) (i:Nat):i+semiN L i≤max i L.length:=by
 unfold semiN
 have:=(List.takeWhile_sublist (fun t:TokP=>t.w==5) (l:=L.drop i)).length_le;rw [List.length_drop] at this
 omega
def atR (d:Nat) (w:World):Nat:=match w.cell? ⟨d,1,none⟩ with
 | some (.int _ k)=>k.toNat
 | _=>0
theorem Rd.at {d:Nat} {lv:Value} {i:Nat} {b:Bool} {w:World} (h:Rd d lv i b w):atR d w=i:=by unfold atR;rw [h.c1];rfl
set_option maxHeartbeats 8000000 in
set_option maxRecDepth 20000 in
theorem semis_any (d:Nat) (L:List TokP) (lv:Value) (i:Nat) (b:Bool) (w:World) (hR:Rd d lv i b w) (hT:Tk d L lv w) (hi:i≤L.length) (hL:L.length≤1000000) :
  Calls Tryz.prog 25 #[.pointer (some ⟨d,0,none⟩)] w fun e w'=>e=.returned (.bool (decide (0<(if b then 0 else semiN L i))))∧Went d lv (i+(if b then 0 else semiN L i)) b w w':=by
 obtain ⟨k,hk⟩:∃ k,(if b then 0 else semiN L i)=k:=⟨_,rfl⟩;rw [hk];have HK:=hid hk;have HT:=hid hT;have HR:=hid hR;clear hk hR hT
 go_enter Tryz.func25,Tryz.ntmps25
 go_wp2_with fail
 go_loopw [3] (fun sv wr=>∃ (j r:Nat),sv=.bool (decide (i<j))∧i≤j∧j≤L.length∧Hid (j+r=i+k)∧Hid ((if b then 0 else semiN L j)=r)∧Hid (Went d lv j b w wr)) (fun _ wr=>L.length+1 - atR d wr)
 case atStart=>exact ⟨i,k,by simp,Nat.le_refl _,hi,hid rfl,HK,hid ⟨HR.out,Mv.refl _ _ _⟩⟩
 case round =>
  obtain ⟨j,r,rfl,hij,hjL,HJ,HS,HW⟩:=hrel;have c1:=comes_any d L lv j b 5 wr HW.out.1 (HT.out.mv HW.out.2 (Nat.le_refl _));have hat:=HW.out.1.at;obtain ⟨R,hR2⟩:∃ R,(!b&&comesT L 5 j)=R:=⟨_,rfl⟩;rw [hR2] at c1;have HR2:=hid hR2;clear hR2
  cases R
  ·have HF:Hid (j=i+k):=hid (by
    have h1:=HJ.out;have h2:=HS.out;have h3:=HR2.out
    cases b
    ·rw [semiN_off (by simpa using h3)] at h2
     simp at h2;omega
    ·simp at h2;omega)
   clear hat
   go_wp2_with fail
   refine c1.mono ?_;intro e w1 h1;obtain ⟨rfl,hw⟩:=h1.went HW.out.1;have HW1:Hid (Went d lv j b w w1):=hid ⟨hw.1,HW.out.2.trans (hw.2.mono HW.out.2.size)⟩;clear c1 h1 hw
   go_wp2_with fail
   go_ret
   refine ⟨?_,HW1.out.at HF.out rfl⟩;rw [HF.out]
   simp
  ·have hb:b=false∧comesT L 5 j=true:=by simpa using HR2.out
   obtain ⟨rfl,hc⟩:=hb
   have hjl:j<L.length:=by
    by_cases h:j<L.length
    ·exact h
    ·rw [comesT_out 5 h] at hc;cases hc
   have hon:=semiN_on hc;have HS2:Hid ((if false=true then 0 else semiN L (j+1))=r - 1):=hid (by have h:=HS.out;simp at h ⊢;omega);have HJ2:Hid (j+1+(r - 1)=i+k):=hid (by have h:=HS.out;have h2:=HJ.out;simp at h;omega)
   go_wp2_with fail
   refine c1.mono ?_;intro e w1 h1;obtain ⟨rfl,hw⟩:=h1.went HW.out.1;have HW1:Hid (Went d lv j false w w1):=hid ⟨hw.1,HW.out.2.trans (hw.2.mono HW.out.2.size)⟩;have k1:=hw.1.c1;have f1:=hw.1.f1;have e1:IntKind.i64.wrap ((j:Int)+1)=(j:Int)+1:=IntWalk.i64_in _ (by omega);have HW2:Hid (Went d lv (j+1) false w (w1.setCell ⟨d,1,none⟩ (.int .i64 ((j:Int)+1)))):=hid ⟨HW1.out.1.set1 _ (by simp),HW1.out.2.setCell 1 _⟩;clear c1 h1 hw hc hon
   go_wp2_with fail
   go_roundw
   case rel=>exact ⟨j+1,r - 1,by simp;omega,by omega,by omega,HJ2,HS2,HW2⟩
   case measure=>rw [hat,HW2.out.1.at];omega
theorem set_row5 {W:World} {q:Nat} {a b c d e a' b' c' d' e':Value} {t:TypeId} (h:W.heap[q]?=some (.cells #[a,b,c,d,e] t (0,0))) :
  (((((W.setCell ⟨q,0,none⟩ a').setCell ⟨q,1,none⟩ b').setCell ⟨q,2,none⟩ c').setCell ⟨q,3,none⟩ d').setCell ⟨q,4,none⟩ e').heap[q]?=some (.cells #[a',b',c',d',e'] t (0,0)):=by
 have hq:q<W.heap.size:=(Array.getElem?_eq_some_iff.1 h).1
 simp [World.setCell,Array.getElem?_modify,h]
theorem five_cells {W:World} {k:Nat} {a b c d e:Value} {t:TypeId} (h:W.heap[k]?=some (.cells #[a,b,c,d,e] t (0,0))) :
  (W.cell? ⟨k,0,none⟩=some a∧W.cell? ⟨k,1,none⟩=some b∧W.cell? ⟨k,2,none⟩=some c∧W.cell? ⟨k,3,none⟩=some d∧W.cell? ⟨k,4,none⟩=some e)∧∀ j,W.frozen? ⟨k,j,none⟩=false:=by
 refine ⟨⟨?_,?_,?_,?_,?_⟩,fun j=>by simp [World.frozen?,h]⟩ <;> (unfold World.cell?;rw [h];rfl)
end Go.Proofs.YtmclaaonlhnbmaaGreatDoor.T
namespace Go.Proofs.YtmclaaonlhnbmaaGreatDoor.T
open Go.RowKit
open Go.Lib hiding intOf
open U S L
set_option maxHeartbeats 8000000 in
set_option maxRecDepth 20000 in
theorem part_any (d:Nat) (L:List TokP) (lv:Value) (i:Nat) (b:Bool) (k t:ByteArray) (f:Int) (a:Option Addr) (n c:Nat) (w:World) (hR:Rd d lv i b w) (hT:Tk d L lv w) (hi:i≤L.length) (hL:L.length≤1000000) :
  Calls Tryz.prog 52 #[.pointer (some ⟨d,0,none⟩),.string k,.string t,.int .i64 f,.slice a n c] w fun e w'=>e=.returned (.agg #[.string k,.string t,.int .i64 f,.int .i64 (toT L i),.slice a n c])∧Went d lv i b w w':=by
 have hd:=hR.lt;obtain ⟨W1,hW1⟩:∃ W1,w.alloc (.cells #[.string ⟨#[]⟩,.string ⟨#[]⟩,.int .i64 0,.int .i64 0,.slice none 0 0] 25)=W1:=⟨_,rfl⟩
 have hb1:Below w.heap.size w W1:=by rw [← hW1];exact (Below.refl _ w).alloc (Nat.le_refl _) _
 have hq1:W1.heap[w.heap.size]?=some (.cells #[.string ⟨#[]⟩,.string ⟨#[]⟩,.int .i64 0,.int .i64 0,.slice none 0 0] 25 (0,0)):=by rw [← hW1];exact heap_alloc_new w _
 have hR1:Rd d lv i b W1:=hR.below hb1;have c1:=to_any d L lv i b W1 hR1 (hT.mv (Mv.of_below hb1) (Nat.le_refl _)) hi hL;obtain ⟨e,he⟩:∃ e,toT L i=e:=⟨_,rfl⟩;rw [he] at c1 ⊢;have HW1:=hid hW1;have HQ1:=hid hq1;have HB1:=hid hb1;have HR1:=hid hR1;clear hW1 hq1 hb1 hR1 hR hT he
 go_enter Tryz.func52,Tryz.ntmps52
 go_wp2_with fail
 rw [HW1.out];refine c1.mono ?_;intro x w2 h2;obtain ⟨rfl,hw2⟩:=h2.went HR1.out;have hqw:=(Array.getElem?_eq_some_iff.1 HQ1.out).1;have hq2:w2.heap[w.heap.size]?=_:=(hw2.2.block w.heap.size hqw (by omega)).trans HQ1.out;have hm2:Mv w.heap.size d w w2:=(Mv.of_below HB1.out).trans (hw2.2.mono (Nat.le_of_lt hqw));obtain ⟨⟨p0,p1,p2,p3,p4⟩,fz⟩:=five_cells hq2;have g0:=fz 0;have g1:=fz 1;have g2:=fz 2;have g3:=fz 3;have g4:=fz 4;have HQ2:=hid hq2;have HM2:=hid hm2;have HR2:=hid hw2.1;clear c1 h2 hw2 hq2 hm2 fz
 go_wp2_with fail
 have hp:=set_row5 (a':=.string k) (b':=.string t) (c':=.int .i64 f) (d':=.int .i64 e) (e':=.slice a n c) HQ2.out
 have hbl:Below w.heap.size w2 (((((w2.setCell ⟨w.heap.size,0,none⟩ (.string k)).setCell ⟨w.heap.size,1,none⟩ (.string t)).setCell ⟨w.heap.size,2,none⟩ (.int .i64 f)).setCell ⟨w.heap.size,3,none⟩ (.int .i64 e)).setCell ⟨w.heap.size,4,none⟩ (.slice a n c)) :=
  (((((Below.refl w.heap.size w2).setCell (p:=⟨w.heap.size,0,none⟩) (Nat.le_refl _) _).setCell (p:=⟨w.heap.size,1,none⟩) (Nat.le_refl _) _).setCell (p:=⟨w.heap.size,2,none⟩) (Nat.le_refl _) _).setCell (p:=⟨w.heap.size,3,none⟩) (Nat.le_refl _) _).setCell (p:=⟨w.heap.size,4,none⟩) (Nat.le_refl _) _
 refine bodyPost_ret (v:=.agg #[.string k,.string t,.int .i64 f,.int .i64 e,.slice a n c]) (results_cell_row rfl _ _ w.heap.size 25 #[.string k,.string t,.int .i64 f,.int .i64 e,.slice a n c] (0,0) _ (by rfl) hp Tryz.underlying25 rfl (by kernel_rfl)) rfl ?_
 exact ⟨rfl,(hbl.block d hd).trans HR2.out,HM2.out.trans (Mv.of_below hbl)⟩
def PartV (W:World) (R:Nat→Prop) (o:Out Pt) (v:Value):Prop :=
 ∃ k t f e a n c,v=.agg #[.string k,.string t,.int .i64 f,.int .i64 e,.slice a n c]∧n≤1000000∧∀ p j,o=.ok p j→v=.agg (five p (.slice a n c)).toArray∧KidsIn W R p (.slice a n c)
def Reads (d:Nat) (lv:Value) (o:Out Pt) (w:World) (e:Ending) (w':World):Prop :=
 ∃ v,e=.returned v∧PartV w' (fun g=>w.heap.size≤g) o v∧Went d lv o.at o.isBad w w'
end Go.Proofs.YtmclaaonlhnbmaaGreatDoor.T
namespace Go.Proofs.YtmclaaonlhnbmaaGreatDoor.T
open Go.Lib hiding intOf
open U S
structure Fw (L:List TokP) (i:Nat) {α:Type} (o:Out α):Prop where
 ge:i≤o.at
 le:o.at≤L.length
structure Fwd (L:List TokP) (i:Nat) {α:Type} (o:Out α):Prop extends Fw L i o where
 gt:o.isBad=false→i<o.at
section
variable {L:List TokP} {i j:Nat} {α β:Type}
theorem Fwd.bad (hi:i≤L.length):Fwd L i (.bad i:Out α):=⟨⟨Nat.le_refl _,hi⟩,fun h=>by cases h⟩
theorem Fw.ok (hij:i≤j) (hj:j≤L.length) (a:α):Fw L i (.ok a j):=⟨hij,hj⟩
theorem Fwd.ok (hij:i<j) (hj:j≤L.length) (a:α):Fwd L i (.ok a j):=⟨⟨Nat.le_of_lt hij,hj⟩,fun _=>hij⟩
theorem Fw.mono {o:Out α} (h:Fw L j o) (hij:i≤j):Fw L i o:=⟨Nat.le_trans hij h.ge,h.le⟩
theorem Fwd.mono {o:Out α} (h:Fwd L j o) (hij:i≤j):Fwd L i o:=⟨h.toFw.mono hij,fun hb=>Nat.lt_of_le_of_lt hij (h.gt hb)⟩
theorem Fw.strict {o:Out α} (h:Fw L j o) (hij:i<j):Fwd L i o:=⟨h.mono (Nat.le_of_lt hij),fun _=>Nat.lt_of_lt_of_le hij h.ge⟩
theorem Fwd.next {o:Out α} {f:α→Nat→Out β} (h:Fwd L i o) (hf:∀ a j,o=.ok a j→i<j→j≤L.length→Fw L j (f a j)):Fwd L i (o.next f):=by
 cases o with
 | ok a j=>exact (hf a j rfl (h.gt rfl) h.le).strict (h.gt rfl)
 | bad j=>exact ⟨⟨h.ge,h.le⟩,fun hb=>by cases hb⟩
theorem Fw.next {o:Out α} {f:α→Nat→Out β} (h:Fw L i o) (hf:∀ a j,o=.ok a j→i≤j→j≤L.length→Fw L j (f a j)):Fw L i (o.next f):=by
 cases o with
 | ok a j=>exact (hf a j rfl h.ge h.le).mono h.ge
 | bad j=>exact ⟨h.ge,h.le⟩
theorem isT_lt {x:By} (h:isT L x i=true):i<L.length:=by
 by_cases h1:i<L.length
 ·exact h1
 ·rw [isT_out x h1] at h;cases h
theorem comesT_lt {x:Int} (h:comesT L x i=true):i<L.length:=by
 by_cases h1:i<L.length
 ·exact h1
 ·rw [comesT_out x h1] at h;cases h
theorem mustT_fwd (x:By) (hi:i≤L.length):Fwd L i (mustT L x i):=by
 unfold mustT
 by_cases h:isT L x i=true
 ·rw [if_pos h];exact .ok (Nat.lt_succ_self _) (isT_lt h) _
 ·rw [if_neg h];exact .bad hi
theorem nameT_fwd (hi:i≤L.length):Fwd L i (nameT L i):=by
 unfold nameT
 by_cases h:comesT L 0 i=true
 ·rw [if_pos h];exact .ok (Nat.lt_succ_self _) (comesT_lt h) _
 ·rw [if_neg h];exact .bad hi
theorem part_fw (k t:By) (f:Int) (ks:List Pt) (hi:i≤L.length):Fw L i (part L k t f ks i):=.ok (Nat.le_refl _) hi _
theorem typed_succ (L:List TokP) (n i:Nat):typed L (n+1) i=if isT L [42] i then (typed L n (i+1)).next fun x j=>part L kStar [] (fromT L i) [x] j
  else if isT L [91] i then (mustT L [93] (i+1)).next fun _ j=>(typed L n j).next fun x k=>part L kSlice [] (fromT L i) [x] k
  else (nameT L i).next fun s j=>part L kName s (fromT L i) [] j:=rfl
theorem typed_fwd:∀ (n i:Nat),i≤L.length→Fwd L i (typed L n i)
 | 0,_,hi=>.bad hi
 | n+1,i,hi=>by
  rw [typed_succ]
  by_cases h:isT L [42] i=true
  ·rw [if_pos h]
   exact ((typed_fwd n (i+1) (isT_lt h)).next fun a j _ _ hj=>part_fw _ _ _ _ hj).mono (Nat.le_succ _)
  ·rw [if_neg h]
   by_cases h1:isT L [91] i=true
   ·rw [if_pos h1]
    exact ((mustT_fwd [93] (isT_lt h1)).next fun a j _ _ hj=>((typed_fwd n j hj).next fun a k _ _ hk=>part_fw _ _ _ _ hk).toFw).mono (Nat.le_succ _)
   ·rw [if_neg h1]
    exact (nameT_fwd hi).next fun a j _ _ hj=>part_fw _ _ _ _ hj
theorem param_fwd (n:Nat) (kind:By) (hi:i≤L.length):Fwd L i (param L n kind i) :=
 (nameT_fwd hi).next fun _ j _ _ hj=>((typed_fwd n j hj).next fun _ _ _ _ hk=>part_fw _ _ _ _ hk).toFw
theorem variable_fwd (n:Nat) (hi:i≤L.length):Fwd L i (variable' L n i) :=
 (mustT_fwd _ hi).next fun _ _ _ _ hj=>((nameT_fwd hj).next fun _ k _ _ hk=>((typed_fwd n k hk).next fun _ _ _ _ hm=>part_fw _ _ _ _ hm).toFw).toFw
end
end Go.Proofs.YtmclaaonlhnbmaaGreatDoor.T
