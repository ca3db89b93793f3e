/- What the claim needs of the texts KDecl, JLaid, JRng, JTree, HPlain, HBld, HWrite, HKid. -/
import Derived.Test.YtmclaaonlhnbmaaGreatDoorSOp
import Derived.Test.YtmclaaonlhnbmaaGreatDoorS11
import Derived.Test.YtmclaaonlhnbmaaGreatDoorRows
import Derived.Test.YtmclaaonlhnbmaaGreatDoorS10
import Derived.OpenShut
import Derived.Lib.LaidTab
import Derived.Lib.LaidU8T
import Derived.PinnedBridge
import Derived.Test.YtmclaaonlhnbmaaGreatDoorS2
import Derived.ChangeArms
import Derived.ChangeSlices
import Derived.SliceStrings
import Derived.Test.YtmclaaonlhnbmaaGreatDoorS9
import Derived.Test.YtmclaaonlhnbmaaGreatDoorProg
import Derived.Lib.Hide
import Derived.Lib.Builder
import Derived.Lib.FrozenHead
import Derived.Lib.UnsafeStr
import Derived.Lib.OthersKept
import Derived.Lib.BufferKept
import Derived.WalkKit
import Derived.Laws.Externs
import Derived.Maps.OwnOps
import Derived.Maps.Views
import Derived.Maps.RangeWalk
import Derived.Maps.OwnSet
import Derived.Deep.LoopGhost
import Derived.Deep.DeepCutAuto
namespace Go.Proofs.YtmclaaonlhnbmaaGreatDoor.K
open Go.RowKit
open Go.Lib hiding intOf
open U S T J
def MTab (w:World):Prop:=2<w.heap.size∧(∃ o:Obj,w.heap[2]?=some o∧o.isCells=true)∧CellsAt w 2 0 tabS
theorem MTab.later {w w':World} (h:MTab w) (hb:Below w.heap.size w w'):MTab w':=by
 obtain ⟨h1,⟨o,h2,h3⟩,h4⟩:=h
 have hq:=hb.block _ h1
 refine ⟨Nat.lt_of_lt_of_le h1 hb.size,⟨o,hq.trans h2,h3⟩,fun j u hj=>?_⟩
 have:=h4 j u hj
 exact (hb.cell (p:=⟨_,0+j,none⟩) h1).trans this
theorem stay_below {O O':Nat→Prop} {W W':World} {B:Nat} (h:Stay O O' W W') (hO:∀ k,O k→B≤k) (hB:B≤W.heap.size):Below B W W' :=
 ⟨h.os,h.tape,h.output,h.size,fun k hk=>h.block k (by omega) (fun ho=>by have:=hO k ho;omega)⟩
theorem read_q {d:Nat} {s:By} {right:Bool} {lv:Value} {O:Nat→Prop} {B:Nat} {W:World} (hM:Mem d (scanB right s) s.length lv ⟨0,[],[root]⟩ O W) (hl:(scanB right s).length≤1660) (hwt:∀ p,fate (scanB right s)=.part p→wtP p≤100000000) (hG:MTab W) (hO:∀ k,O k→B≤k) (hB:B≤W.heap.size) (hg:2<B) :
  Calls Tryz.prog 19 #[ptr d] W fun e W'=>∃ q lv at' er,e=.returned (.tuple #[arg q lv,.int .i64 at',.int .i64 er])∧KidsIn W' (fun _=>True) q lv∧wtP q≤100000000∧NnL (kidsP q)∧Below B W W' ∧
   declP (scanB right s) s.length=if 40<deep q then (zeroP,0,22) else (q,at',er):=by
 have hG':PTab O W:=⟨⟨hG.1,fun h=>by have:=hO _ h;omega,hG.2.1⟩,hG.2.2⟩
 refine (read_any hM (scan_fine right s) hl hG').mono ?_
 intro e W' h
 unfold declP
 cases hf:fate (scanB right s) with
 | bad j =>
  rw [hf] at h
  obtain ⟨O',rfl,hS⟩:=h
  refine ⟨zeroP,.slice none 0 0,(tok (scanB right s) s.length j).f,101,rfl,⟨none,0,rfl,Nat.le_refl _,.inl rfl⟩,by decide,NnL.nil,stay_below hS hO hB,?_⟩
  rw [if_neg (by decide)]
 | part p =>
  rw [hf] at h
  obtain ⟨plv,O',rfl,hk,hS⟩:=h
  exact ⟨p,plv,0,0,rfl,KidsIn.later (fun _ _ _=>rfl) (fun _ _=>trivial) _ _ hk,hwt p hf,(by have h:=fate_nn hf;cases p;unfold Nn at h;exact h.2),stay_below hS hO hB,rfl⟩
theorem set_five {W:World} {b:Nat} {t:TypeId} {u0 u1 u2 u3 u4:Value} (v0 v1 v2 v3 v4:Value) (h:W.heap[b]?=some (.cells #[u0,u1,u2,u3,u4] t (0,0))) :
  ∃ W',((((W.setCell ⟨b,0,none⟩ v0).setCell ⟨b,1,none⟩ v1).setCell ⟨b,2,none⟩ v2).setCell ⟨b,3,none⟩ v3).setCell ⟨b,4,none⟩ v4=W'∧W'.heap[b]?=some (.cells #[v0,v1,v2,v3,v4] t (0,0))∧(∀ k,k≠b→W'.heap[k]?=W.heap[k]?)∧∀ B,B≤b→Below B W W':=by
 have s0:(W.setCell ⟨b,0,none⟩ v0).heap[b]?=some (.cells #[v0,u1,u2,u3,u4] t (0,0)):=Go.Joins.block_setCell h v0
 have s1:((W.setCell ⟨b,0,none⟩ v0).setCell ⟨b,1,none⟩ v1).heap[b]?=some (.cells #[v0,v1,u2,u3,u4] t (0,0)):=Go.Joins.block_setCell s0 v1
 have s2:(((W.setCell ⟨b,0,none⟩ v0).setCell ⟨b,1,none⟩ v1).setCell ⟨b,2,none⟩ v2).heap[b]?=some (.cells #[v0,v1,v2,u3,u4] t (0,0)):=Go.Joins.block_setCell s1 v2
 have s3:((((W.setCell ⟨b,0,none⟩ v0).setCell ⟨b,1,none⟩ v1).setCell ⟨b,2,none⟩ v2).setCell ⟨b,3,none⟩ v3).heap[b]?=some (.cells #[v0,v1,v2,v3,u4] t (0,0)):=Go.Joins.block_setCell s2 v3
 have s4:(((((W.setCell ⟨b,0,none⟩ v0).setCell ⟨b,1,none⟩ v1).setCell ⟨b,2,none⟩ v2).setCell ⟨b,3,none⟩ v3).setCell ⟨b,4,none⟩ v4).heap[b]?=some (.cells #[v0,v1,v2,v3,v4] t (0,0)):=Go.Joins.block_setCell s3 v4
 have oth:∀ k,k≠b→(((((W.setCell ⟨b,0,none⟩ v0).setCell ⟨b,1,none⟩ v1).setCell ⟨b,2,none⟩ v2).setCell ⟨b,3,none⟩ v3).setCell ⟨b,4,none⟩ v4).heap[k]?=W.heap[k]?:=fun k hk =>
  (Below.heap_setCell _ _ _ _ hk).trans ((Below.heap_setCell _ _ _ _ hk).trans ((Below.heap_setCell _ _ _ _ hk).trans ((Below.heap_setCell _ _ _ _ hk).trans (Below.heap_setCell _ _ _ _ hk))))
 have b1:∀ B,B≤b→∀ (X:World) (j:Nat) (v:Value),Below B X (X.setCell ⟨b,j,none⟩ v):=fun B hB X j v=>⟨rfl,rfl,rfl,by simp,fun k hk=>Below.heap_setCell _ _ _ _ (by show k≠b;omega)⟩
 exact ⟨_,rfl,s4,oth,fun B hB=>((((b1 B hB _ _ _).trans (b1 B hB _ _ _)).trans (b1 B hB _ _ _)).trans (b1 B hB _ _ _)).trans (b1 B hB _ _ _)⟩
theorem kids_leaveL {W:World} {R X:Nat→Prop} (hX:∀ g off k,X g→k≠[]→W.cell? ⟨g,off,none⟩≠some (.string (bstr k))) {k t:By} {f e:Int} {ks:List Pt} {lv:Value} (hn:NnL ks) (h:KidsIn W R (.mk k t f e ks) lv):KidsIn W (fun g=>R g∧¬ X g) (.mk k t f e ks) lv :=
 kids_leave hX (.mk [0] t f e ks) lv (by unfold Nn;exact ⟨by decide,hn⟩) h
def DeclPost (s:ByteArray) (w:World) (e:Ending) (w':World):Prop:=∃ p at' er lv,declP (scanB (okB s) s.toList) s.size=(p,at',er)∧e=.returned (.tuple #[arg p lv,.int .i64 at',.int .i64 er])∧KidsIn w' (fun _=>True) p lv∧Below w.heap.size w w'∧wtP p≤100000000
set_option maxHeartbeats 4000000 in
set_option maxRecDepth 20000 in
theorem decl_big (s:ByteArray) (w:World) (hs:s.size≤1000000000000) (hlw:(scanB (okB s) s.toList).length≤1660) (hwf:∀ p,fate (scanB (okB s) s.toList)=.part p→wtP p≤100000000) (hT:Tabs w) (hG:MTab w) :
  Calls Tryz.prog 8 #[.string s] w (DeclPost s w):=by
 have hgl:=hG.1
 have HT:=hid hT
 have HG:=hid hG
 have HS:=hid hs
 have HLW:=hid hlw
 have HWF:=hid hwf
 have htl:=tl_len s
 clear hT hG hlw hwf
 go_enter Tryz.func8,Tryz.ntmps8
 go_upto_region 1 with fail
 obtain ⟨w1,hw1,hq1,hb1,hz1⟩:=new_block w (.cells #[.string ⟨#[]⟩,.string ⟨#[]⟩,.int .i64 0,.int .i64 0,.slice none 0 0] 25)
 rw [hw1]
 have HB1:=hid hb1
 have HQ1:=hid hq1
 have HZ1:=hid hz1
 have cN:=new_any s w1 HS.out (Nat.le_trans HLW.out (by decide)) (HT.out.later hb1)
 clear hw1 hq1 hb1 hz1
 go_wp2_with fail
 refine cN.mono ?_
 rintro e w2 ⟨d,rv,O,rfl,hM,hb2,hO⟩
 have hz2:=HB1.out.size
 have HB2:=hid (HB1.out.trans (hb2.mono hz2))
 have HQ2:=hid ((hb2.block _ HZ1.out).trans HQ1.out)
 have cR:=read_q (B:=w1.heap.size) (by rw [htl];exact hM) HLW.out HWF.out (HG.out.later HB2.out) hO hb2.size (by omega)
 rw [htl] at cR
 have HZ2:=hid (Nat.lt_of_lt_of_le HZ1.out hb2.size)
 clear cN hM hO hb2
 go_wp2_with fail
 refine cR.mono ?_
 rintro e w3 ⟨q,lv,at',er,rfl,hk,hwt,hnn,hb3,hdp⟩
 have HB3:=hid (HB2.out.trans (hb3.mono hz2))
 have HQ3:=hid ((hb3.block _ HZ1.out).trans HQ2.out)
 have HZ3:=hid (Nat.lt_of_lt_of_le HZ2.out hb3.size)
 have HDP:=hid hdp
 obtain ⟨k,t,f,e,ks⟩:=q
 obtain ⟨a,c,rfl⟩:=J.kids_form hk
 have HK:=hid hk
 have HNN:=hid hnn
 have HWT:=hid hwt
 have cD:=fun X (hX:Below w3.heap.size w3 X)=>deep_any (.mk k t f e ks) (kids_below HK.out hX) (by have:=HWT.out;omega)
 obtain ⟨dp,hdpn⟩:∃ n,deep (.mk k t f e ks)=n:=⟨_,rfl⟩
 rw [hdpn] at cD
 have HDN:=hid hdpn
 simp only [arg,five] at cD ⊢
 obtain ⟨kb,hkb⟩:∃ x,bstr k=x:=⟨_,rfl⟩
 obtain ⟨tb,htb⟩:∃ x,bstr t=x:=⟨_,rfl⟩
 have HKB:=hid hkb
 have HTB:=hid htb
 rw [hkb,htb] at cD ⊢
 obtain ⟨n,hn⟩:∃ n,ks.length=n:=⟨_,rfl⟩
 have HN:=hid hn
 rw [hn] at cD ⊢
 clear cR hk hwt hnn hb3 hdp hdpn hkb htb hn htl hgl
 go_upto_region 2 with fail
 obtain ⟨w4,hw4,hq4,hb4,hz4⟩:=new_block w3 (.cells #[.string kb,.string tb,.int .i64 f,.int .i64 e,.slice a n c] 25)
 rw [hw4]
 have cD4:=cD w4 hb4
 have HQ4:=hid hq4
 have HB4:=hid hb4
 have HZ4:=hid hz4
 obtain ⟨⟨q0,q1,q2,q3,q4⟩,qf⟩:=J.cells_five hq4
 clear hw4 hq4 hb4 hz4 cD
 go_wp2_with fail
 refine cD4.mono ?_
 rintro e' w5 ⟨rfl,hb5⟩
 have hq5:=(hb5.block _ HZ4.out).trans HQ4.out
 have hp5:=(hb5.block _ (by have:=HZ3.out;have:=HB4.out.size;omega)).trans ((HB4.out.block _ HZ3.out).trans HQ3.out)
 have HB5:=hid (HB3.out.trans ((HB4.out.trans (hb5.mono HB4.out.size)).mono HB3.out.size))
 have hne:w3.heap.size≠w.heap.size:=by have:=HZ3.out;omega
 obtain ⟨⟨q0,q1,q2,q3,q4⟩,qf⟩:=J.cells_five hq5
 obtain ⟨⟨p0,p1,p2,p3,p4⟩,pf⟩:=J.cells_five hp5
 have HK5:=hid (kids_below (kids_below HK.out HB4.out) hb5)
 have HP5:=hid hp5
 obtain ⟨b,hb⟩:∃ b,w.heap.size=b:=⟨_,rfl⟩
 have HWB:=hid hb
 rw [hb] at p0 p1 p2 p3 p4 pf hne HP5 ⊢
 clear cD4 hb5 hq5 hp5 hb
 by_cases hd:40<dp
 ·go_wp2_with fail
  obtain ⟨Wf,hWf,f0,oth,hbf⟩:=set_five (.string ⟨#[]⟩) (.string ⟨#[]⟩) (.int .i64 0) (.int .i64 0) (.slice none 0 0) HP5.out
  rw [hWf]
  obtain ⟨⟨y0,y1,y2,y3,y4⟩,_⟩:=J.cells_five f0
  have hbw:Below w.heap.size w Wf:=HB5.out.trans (hbf _ (by have:=HWB.out;omega))
  have hfin:DeclPost s w (.returned (.tuple #[.agg #[.string ⟨#[]⟩,.string ⟨#[]⟩,.int .i64 0,.int .i64 0,.slice none 0 0],.int .i64 0,.int .i64 22])) Wf :=
   ⟨zeroP,0,22,.slice none 0 0,by rw [HDP.out,HDN.out,if_pos hd],rfl,⟨none,0,rfl,Nat.le_refl _,.inl rfl⟩,hbw,by decide⟩
  clear hWf f0 oth hbf hbw q0 q1 q2 q3 q4 qf p0 p1 p2 p3 p4 pf
  simp [bodyPost,results,Tryz.results8,go_sem,y0,y1,y2,y3,y4]
  exact hfin
 ·go_wp2_with fail
  obtain ⟨Wf,hWf,f0,oth,hbf⟩:=set_five (.string kb) (.string tb) (.int .i64 f) (.int .i64 e) (.slice a n c) HP5.out
  rw [hWf]
  obtain ⟨⟨y0,y1,y2,y3,y4⟩,_⟩:=J.cells_five f0
  have hbw:Below w.heap.size w Wf:=HB5.out.trans (hbf _ (by have:=HWB.out;omega))
  have hkf:KidsIn Wf (fun _=>True) (.mk k t f e ks) (.slice a ks.length c) :=
   KidsIn.later (fun g hg _=>oth g hg.2) (fun _ _=>trivial) _ _ (kids_leaveL (X:=fun g=>g=b) (fun g off k hg hk=>by subst hg;exact blank_block HP5.out off k hk) HNN.out HK5.out)
  have hfin:DeclPost s w (.returned (.tuple #[.agg #[.string kb,.string tb,.int .i64 f,.int .i64 e,.slice a n c],.int .i64 at',.int .i64 er])) Wf :=
   ⟨.mk k t f e ks,at',er,.slice a ks.length c,by rw [HDP.out,HDN.out,if_neg hd],by rw [arg,five,HKB.out,HTB.out,HN.out],hkf,hbw,HWT.out⟩
  clear hWf f0 oth hbf hbw hkf q0 q1 q2 q3 q4 qf p0 p1 p2 p3 p4 pf
  simp [bodyPost,results,Tryz.results8,go_sem,y0,y1,y2,y3,y4]
  exact hfin
theorem decl_any (s:ByteArray) (w:World) (hs:s.size≤600) (hT:Tabs w) (hG:MTab w) :
  Calls Tryz.prog 8 #[.string s] w (DeclPost s w) :=
 decl_big s w (by omega) (by have h:=scan_len' (okB s) s.toList;have e:=tl_len s;omega) (fun p h=>wt_fate (by have e:=tl_len s;omega) h) hT hG
end Go.Proofs.YtmclaaonlhnbmaaGreatDoor.K
namespace Go.Proofs.YtmclaaonlhnbmaaGreatDoor.J
open Go.Proofs Go.Shelf Go.RowKit
open Go.Lib hiding intOf
open U S T
open Go.Proofs.YtmclaaonlhnbmaaGreatDoor.K (MTab tabS)
theorem tabs_of {W:World} {l:List (String × DataW Unit)} (hL:laidMet Tryz.prog l W) (h1:("unicode/utf8.first",Rows.laid_unicode_utf8_first)∈l) (h2:("unicode/utf8.acceptRanges",Rows.laid_unicode_utf8_acceptRanges)∈l):Tabs W :=
 utf8Tabs_of_readsT (U8Types.of196 lays) ⟨by kernel_rfl,by kernel_rfl,by kernel_rfl,by kernel_rfl,by kernel_rfl,by kernel_rfl,by kernel_rfl⟩
  (Pinned.utf8First_eq ▸ Lib.laidMet.reads hL h1) (Lib.laidMet.reads hL h2)
theorem cells_mark:Tryz.prog.cellsOf 142=2:=by kernel_rfl
theorem cells_marks:Tryz.prog.cellsOf 143=26:=by kernel_rfl
theorem cells_strJ:Tryz.prog.cellsOf 9=1:=by kernel_rfl
theorem cells_intJ:Tryz.prog.cellsOf 3=1:=by kernel_rfl
theorem two_listJ {α:Type} {l:List α} (h:l.length=2):∃ a b,l=[a,b]:=by
 match l,h with
 | [a,b],_=>exact ⟨a,b,rfl⟩
theorem str_backJ {s:ByteArray} {l:List UInt8} (h:s.data.toList=l):s=⟨l.toArray⟩:=by
 subst h
 cases s
 simp
theorem mark_of {H:Type} {enc:TypeId × Value→H} {W:World} {held:Bool} {fuel:Nat} {cs:List Value} {s:List UInt8} {k:Int} {x:DataW H × List MemPlace}
  (h:DataW.trod enc Tryz.prog W 0 (fun _=>true) held fuel 142 cs=some x) (hx:x.1=.agg [.lit (.string s),.lit (.int .i64 k)]):cs=[.string ⟨s.toArray⟩,.int .i64 k]:=by
 obtain ⟨xs,n,rfl,rfl,hcl,hxl,hfd⟩:=DataW.trod_struct Tryz.underlying142 h
 rw [cells_mark] at hcl
 obtain ⟨c0,c1,rfl⟩:=two_listJ hcl
 obtain ⟨y0,y1,rfl⟩:=two_listJ (hxl.trans rfl)
 have f0:=hfd 0 _ rfl
 have f1:=hfd 1 _ rfl
 have g0:DataW.trod enc Tryz.prog W 0 (fun _=>true) held n 9 (([c0,c1].drop 0).take (Tryz.prog.cellsOf 9))=some y0:=f0
 rw [cells_strJ] at g0
 replace g0:DataW.trod enc Tryz.prog W 0 (fun _=>true) held n 9 [c0]=some y0:=g0
 have g1:DataW.trod enc Tryz.prog W 0 (fun _=>true) held n 3 (([c0,c1].drop 1).take (Tryz.prog.cellsOf 3))=some y1:=f1
 rw [cells_intJ] at g1
 replace g1:DataW.trod enc Tryz.prog W 0 (fun _=>true) held n 3 [c1]=some y1:=g1
 obtain ⟨ts,h0,e0,_⟩:=DataW.trod_string Tryz.underlying9 g0
 obtain ⟨z,h1,e1,_⟩:=DataW.trod_int Tryz.underlying3 g1
 cases h0;cases h1
 subst e0;subst e1
 simp only [List.map_cons,List.map_nil,DataW.agg.injEq,List.cons.injEq,DataW.lit.injEq,Lit.int.injEq,Lit.string.injEq,true_and,and_true] at hx
 obtain ⟨hs,rfl⟩:=hx
 rw [str_backJ hs]
theorem rows_flatJ {α:Type} {k:Nat}:∀ (rows:List (List α)) (cs:List α),cs.length=rows.length*k→(∀ i r,rows[i]?=some r→(cs.drop (i*k)).take k=r)→cs=rows.flatten
 | [],cs,hl,_=>by
  simp at hl
  simpa using hl
 | r :: rows,cs,hl,h=>by
  have h0:=h 0 r rfl
  simp only [Nat.zero_mul,List.drop_zero] at h0
  have ih:=rows_flatJ rows (cs.drop k) (by rw [List.length_drop,hl,List.length_cons,Nat.add_mul,Nat.one_mul,Nat.add_sub_cancel]) (fun i r' hr=>by
   have:=h (i+1) r' (by simpa using hr)
   rw [List.drop_drop,show k+i*k=(i+1)*k by rw [Nat.add_mul,Nat.one_mul,Nat.add_comm]]
   exact this)
  rw [List.flatten_cons,← h0,← ih,List.take_append_drop]
theorem list13 {α:Type} {l:List α} (h:l.length=13):∃ x0 x1 x2 x3 x4 x5 x6 x7 x8 x9 x10 x11 x12,l=[x0,x1,x2,x3,x4,x5,x6,x7,x8,x9,x10,x11,x12]:=by
 match l,h with
 | [x0,x1,x2,x3,x4,x5,x6,x7,x8,x9,x10,x11,x12],_=>exact ⟨x0,x1,x2,x3,x4,x5,x6,x7,x8,x9,x10,x11,x12,rfl⟩
def rowsS:List (List Value):=(List.range 13).map fun i=>(tabS.drop (i*2)).take 2
theorem table_of {H:Type} {enc:TypeId × Value→H} {W:World} {held:Bool} {fuel:Nat} {cs:List Value} {x:DataW H × List MemPlace}
  (h:DataW.trod enc Tryz.prog W 0 (fun _=>true) held fuel 143 cs=some x) (hx:x.1=Rows.laid_bolthole_parse_marks):cs=tabS:=by
 obtain ⟨xs,m,rfl,rfl,hcl,hxl,hel⟩:=DataW.trod_array Tryz.underlying143 h
 rw [cells_marks] at hcl
 rw [cells_mark] at hel
 obtain ⟨x0,x1,x2,x3,x4,x5,x6,x7,x8,x9,x10,x11,x12,rfl⟩:=list13 hxl
 simp only [Rows.laid_bolthole_parse_marks,List.map_cons,List.map_nil,DataW.agg.injEq,List.cons.injEq,and_true] at hx
 obtain ⟨d0,d1,d2,d3,d4,d5,d6,d7,d8,d9,d10,d11,d12⟩:=hx
 have r0:=mark_of (hel 0 (by omega)) d0
 have r1:=mark_of (hel 1 (by omega)) d1
 have r2:=mark_of (hel 2 (by omega)) d2
 have r3:=mark_of (hel 3 (by omega)) d3
 have r4:=mark_of (hel 4 (by omega)) d4
 have r5:=mark_of (hel 5 (by omega)) d5
 have r6:=mark_of (hel 6 (by omega)) d6
 have r7:=mark_of (hel 7 (by omega)) d7
 have r8:=mark_of (hel 8 (by omega)) d8
 have r9:=mark_of (hel 9 (by omega)) d9
 have r10:=mark_of (hel 10 (by omega)) d10
 have r11:=mark_of (hel 11 (by omega)) d11
 have r12:=mark_of (hel 12 (by omega)) d12
 refine (rows_flatJ rowsS cs (k:=2) hcl (fun i r hr=>?_)).trans (by kernel_rfl)
 have hi:i<13:=(List.getElem?_eq_some_iff.1 hr).1
 by_cases e0:i=0
 ·subst e0
  exact r0.trans (Option.some.inj hr)
 by_cases e1:i=1
 ·subst e1
  exact r1.trans (Option.some.inj hr)
 by_cases e2:i=2
 ·subst e2
  exact r2.trans (Option.some.inj hr)
 by_cases e3:i=3
 ·subst e3
  exact r3.trans (Option.some.inj hr)
 by_cases e4:i=4
 ·subst e4
  exact r4.trans (Option.some.inj hr)
 by_cases e5:i=5
 ·subst e5
  exact r5.trans (Option.some.inj hr)
 by_cases e6:i=6
 ·subst e6
  exact r6.trans (Option.some.inj hr)
 by_cases e7:i=7
 ·subst e7
  exact r7.trans (Option.some.inj hr)
 by_cases e8:i=8
 ·subst e8
  exact r8.trans (Option.some.inj hr)
 by_cases e9:i=9
 ·subst e9
  exact r9.trans (Option.some.inj hr)
 by_cases e10:i=10
 ·subst e10
  exact r10.trans (Option.some.inj hr)
 by_cases e11:i=11
 ·subst e11
  exact r11.trans (Option.some.inj hr)
 by_cases e12:i=12
 ·subst e12
  exact r12.trans (Option.some.inj hr)
 omega
theorem mtab_of {W:World} {l:List (String × DataW Unit)} (hL:laidMet Tryz.prog l W) (hm:("bolthole/parse.marks",Rows.laid_bolthole_parse_marks)∈l):MTab W:=by
 obtain ⟨g',t',cs,fuel,p,hg',ht',hv,hd⟩:=Lib.laidMet.reads hL hm
 obtain rfl:=Option.some.inj ((show Tryz.prog.globalNamed "bolthole/parse.marks"=some 2 by kernel_rfl).symm.trans hg')
 obtain rfl:=Option.some.inj ((show (Tryz.prog.globals[2]?).map (·.type)=some 143 by kernel_rfl).symm.trans ht')
 have e:=table_of hd rfl
 have hcell:CellsAt W 2 0 tabS:=by
  intro j u hj
  have hc:=World.var?_cell (P:=Tryz.prog) (show Tryz.prog.globalNamed "bolthole/parse.marks"=some 2 by kernel_rfl) hv j
  rw [Nat.zero_add,hc,← Array.getElem?_toList,e]
  exact hj
 have h0:=hcell 0 _ rfl
 have hlt:=World.block_lt_of_cell? W _ h0
 refine ⟨hlt,?_,hcell⟩
 unfold World.cell? at h0
 cases ho:W.heap[2]? with
 | none=>rw [ho] at h0;cases h0
 | some o =>
  refine ⟨o,rfl,?_⟩
  rw [ho] at h0
  cases o <;> first|rfl|(simp at h0)
end Go.Proofs.YtmclaaonlhnbmaaGreatDoor.J
namespace Go.Proofs.YtmclaaonlhnbmaaGreatDoor.J
open U S T
mutual
def Rng:Pt→Prop
 | .mk _ _ f e ks=>(-9223372036854775808≤f∧f<9223372036854775808)∧(-9223372036854775808≤e∧e<9223372036854775808)∧RngL ks
def RngL:List Pt→Prop
 | []=>True
 | p :: r=>Rng p∧RngL r
end
end Go.Proofs.YtmclaaonlhnbmaaGreatDoor.J
namespace Go.Proofs.YtmclaaonlhnbmaaGreatDoor.J
open Go.Proofs Go.RowKit Go.ChangeShapes Go.WideShapes Go.ChangeAt
open U S T
theorem bulkAll_snoc {H:Type}:∀ (a:List (DataW H)) (d:DataW H),Rows.uptoBulkAll (a++[d])=Rows.uptoBulkAll a+Rows.uptoBulk d
 | [],d=>by simp [Rows.uptoBulkAll]
 | x :: r,d=>by simp only [List.cons_append,Rows.uptoBulkAll,bulkAll_snoc r d];omega
theorem wtL_snoc (l:List Pt) (p:Pt):wtL (l++[p])=wtL l+wtP p:=by rw [wtL_app,wtL,wtL];omega
theorem rngL_snoc:∀ (l:List Pt) (p:Pt),RngL l→Rng p→RngL (l++[p])
 | [],p,_,h=>by show RngL [p];unfold RngL;exact ⟨h,by unfold RngL;trivial⟩
 | x :: r,p,hl,h=>by
  unfold RngL at hl
  show RngL (x :: (r++[p]))
  unfold RngL
  exact ⟨hl.1,rngL_snoc r p hl.2 h⟩
theorem range_ofJ {a:Int} (h:(Lit.int .i64 a).wf=true):-9223372036854775808≤a∧a<9223372036854775808:=by
 have h0:=h
 have h1:IntKind.i64.min=-9223372036854775808:=by decide
 have h2:IntKind.i64.max=9223372036854775807:=by decide
 simp [Lit.wf,h1,h2] at h0
 omega
theorem list_of {H:Type} {W:World} {R:Nat→Prop} {g off:Nat} (E:List (DataW H × List MemPlace)):∀ m,m≤E.length→(∀ i (h:i<m) (hE:i<E.length),∃ p lv,(∀ j u,(five p lv)[j]?=some u→W.cell? ⟨g,off+i*5+j,none⟩=some u)∧KidsIn W R p lv∧wtP p≤Rows.uptoBulk E[i].1∧Rng p) →
  ∃ l xs,l.length=m∧CellsAt W g off xs∧PartsIn W R l xs∧wtL l≤Rows.uptoBulkAll ((E.take m).map (·.1))∧RngL l
 | 0,_,_=>⟨[],[],rfl,fun j u hj=>by simp at hj,rfl,by simp [wtL],by unfold RngL;trivial⟩
 | m+1,hm,h=>by
  obtain ⟨l,xs,h1,h2,h3,h4,h8⟩:=list_of E m (by omega) (fun i hi hE=>h i (by omega) hE)
  obtain ⟨p,lv,h5,h6,h7,h9⟩:=h m (by omega) (by omega)
  have hlen:=PartsIn.length h3
  refine ⟨l++[p],xs++five p lv,by simp [h1],?_,PartsIn.snoc h3 h6,?_,rngL_snoc l p h8 h9⟩
  ·intro j u hj
   by_cases hj2:j<xs.length
   ·rw [List.getElem?_append_left hj2] at hj
    exact h2 j u hj
   ·rw [List.getElem?_append_right (by omega)] at hj
    have:=h5 _ u hj
    rw [show off+m*5+(j - xs.length)=off+j by omega] at this
    exact this
  ·rw [wtL_snoc,List.take_succ_eq_append_getElem (by omega),List.map_append,List.map_singleton,bulkAll_snoc]
   omega
theorem cells_part:Tryz.prog.cellsOf 25=5:=by kernel_rfl
theorem cells_strT:Tryz.prog.cellsOf 9=1:=by kernel_rfl
theorem cells_intT:Tryz.prog.cellsOf 3=1:=by kernel_rfl
theorem cells_lstT:Tryz.prog.cellsOf 23=1:=by kernel_rfl
theorem five_listT {α:Type} {l:List α} (h:l.length=5):∃ a b c d e,l=[a,b,c,d,e]:=by
 match l,h with
 | [a,b,c,d,e],_=>exact ⟨a,b,c,d,e,rfl⟩
theorem mk_backT (s:ByteArray):bstr s.data.toList=s:=by
 cases s
 simp [bstr]
theorem tree_of {H:Type} {enc:TypeId × Value→H} {W:World} {held:Bool}:∀ (F fuel:Nat) (cs:List Value) (x:DataW H × List MemPlace),fuel≤F→DataW.trod enc Tryz.prog W 0 (fun _=>true) held fuel 25 cs=some x →
  ∃ p lv,cs=five p lv∧KidsIn W (fun _=>True) p lv∧wtP p≤Rows.uptoBulk x.1∧Rng p:=by
 intro F
 induction F with
 | zero =>
  intro fuel cs x hf h
  obtain ⟨xs,n,rfl,_⟩:=DataW.trod_struct Tryz.underlying25 h
  omega
 | succ F ih =>
  intro fuel cs x hf h
  obtain ⟨xs,n,rfl,rfl,hcl,hxl,hfd⟩:=DataW.trod_struct Tryz.underlying25 h
  rw [cells_part] at hcl
  obtain ⟨c0,c1,c2,c3,c4,rfl⟩:=five_listT hcl
  obtain ⟨y0,y1,y2,y3,y4,rfl⟩:=five_listT (hxl.trans rfl)
  have f0:=hfd 0 _ rfl
  have g0:DataW.trod enc Tryz.prog W 0 (fun _=>true) held n 9 (([c0,c1,c2,c3,c4].drop 0).take (Tryz.prog.cellsOf 9))=some y0:=f0
  rw [cells_strT] at g0
  replace g0:DataW.trod enc Tryz.prog W 0 (fun _=>true) held n 9 [c0]=some y0:=g0
  have f1:=hfd 1 _ rfl
  have g1:DataW.trod enc Tryz.prog W 0 (fun _=>true) held n 9 (([c0,c1,c2,c3,c4].drop 1).take (Tryz.prog.cellsOf 9))=some y1:=f1
  rw [cells_strT] at g1
  replace g1:DataW.trod enc Tryz.prog W 0 (fun _=>true) held n 9 [c1]=some y1:=g1
  have f2:=hfd 2 _ rfl
  have g2:DataW.trod enc Tryz.prog W 0 (fun _=>true) held n 3 (([c0,c1,c2,c3,c4].drop 2).take (Tryz.prog.cellsOf 3))=some y2:=f2
  rw [cells_intT] at g2
  replace g2:DataW.trod enc Tryz.prog W 0 (fun _=>true) held n 3 [c2]=some y2:=g2
  have f3:=hfd 3 _ rfl
  have g3:DataW.trod enc Tryz.prog W 0 (fun _=>true) held n 3 (([c0,c1,c2,c3,c4].drop 3).take (Tryz.prog.cellsOf 3))=some y3:=f3
  rw [cells_intT] at g3
  replace g3:DataW.trod enc Tryz.prog W 0 (fun _=>true) held n 3 [c3]=some y3:=g3
  have f4:=hfd 4 _ rfl
  have g4:DataW.trod enc Tryz.prog W 0 (fun _=>true) held n 23 (([c0,c1,c2,c3,c4].drop 4).take (Tryz.prog.cellsOf 23))=some y4:=f4
  rw [cells_lstT] at g4
  replace g4:DataW.trod enc Tryz.prog W 0 (fun _=>true) held n 23 [c4]=some y4:=g4
  obtain ⟨t0,h0,e0,_⟩:=DataW.trod_string Tryz.underlying9 g0
  obtain ⟨t1,h1,e1,_⟩:=DataW.trod_string Tryz.underlying9 g1
  obtain ⟨z2,h2,e2,w2⟩:=DataW.trod_int Tryz.underlying3 g2
  obtain ⟨z3,h3,e3,w3⟩:=DataW.trod_int Tryz.underlying3 g3
  cases h0;cases h1;cases h2;cases h3
  subst e0;subst e1;subst e2;subst e3
  clear f0 f1 f2 f3 f4 hfd g0 g1 g2 g3 h hcl hxl
  have hlist:∃ l,(∃ a cap,c4=.slice a l.length cap∧l.length≤cap∧(l=[]∨∃ g off xs,a=some ⟨g,off,none⟩∧True∧CellsAt W g off xs∧PartsIn W (fun _=>True) l xs))∧wtL l+1≤Rows.uptoBulk y4.1∧RngL l:=by
   rcases DataW.trod_slice Tryz.underlying23 g4 with ⟨hc,rfl⟩|⟨a,len,cap,elems,rest,m,hnm,hc,rfl,_,hl,hm,hlen,hel,_,_⟩
   ·cases hc
    exact ⟨[],⟨none,0,rfl,Nat.le_refl _,.inl rfl⟩,by simp [wtL,Rows.uptoBulk],by unfold RngL;trivial⟩
   ·cases hc
    by_cases h0:len=0
    ·refine ⟨[],⟨some a,cap,by simp [h0],Nat.zero_le _,.inl rfl⟩,by simp [wtL,Rows.uptoBulk],by unfold RngL;trivial⟩
    ·obtain ⟨g,off,spot⟩:=a
     have hgo:∀ i (h:i<len) (hE:i<elems.length),∃ ci,W.cells? 0 ((⟨g,off,spot⟩:Addr).add (i*5)) 5=some ci∧DataW.trod enc Tryz.prog W 0 (fun _=>true) held m 25 ci=some elems[i]:=by
      intro i hi hE
      have h1:=hel i hi
      rw [cells_part,List.getElem?_eq_getElem hE] at h1
      exact Option.bind_eq_some_iff.1 h1
     have hspot:spot=none:=by
      obtain ⟨ci,hc1,_⟩:=hgo 0 (by omega) (by omega)
      obtain ⟨_,hcl,hcc⟩:=World.cells?_some hc1
      have h2:=hcc 0 (by omega)
      rw [List.getElem?_eq_getElem (by omega)] at h2
      simpa [Addr.add] using World.cell?_spot h2
     subst hspot
     obtain ⟨l,xs,h1,h2,h3,h4,h5⟩:=list_of (W:=W) (R:=fun _=>True) (g:=g) (off:=off) elems len (by omega) (fun i hi hE=>by
      obtain ⟨ci,hc1,hc2⟩:=hgo i hi hE
      obtain ⟨p,lv,rfl,hv,hw,hr⟩:=ih m ci elems[i] (by omega) hc2
      obtain ⟨_,hcl,hcc⟩:=World.cells?_some hc1
      refine ⟨p,lv,fun j u hj=>?_,hv,hw,hr⟩
      have hj5:j<5:=by
       have:=(List.getElem?_eq_some_iff.1 hj).1
       rw [five_length] at this
       exact this
      have:=hcc j hj5
      rw [Addr.add_lit,Addr.add_lit,hj] at this
      exact this)
     refine ⟨l,⟨some ⟨g,off,none⟩,cap,by rw [h1],by rw [h1];exact hl,.inr ⟨g,off,xs,rfl,trivial,h2,h3⟩⟩,?_,h5⟩
     rw [List.take_of_length_le (by omega)] at h4
     simp only [Rows.uptoBulk]
     omega
  obtain ⟨l,hl1,hl2,hl3⟩:=hlist
  refine ⟨.mk t0.data.toList t1.data.toList z2 z3 l,c4,?_,hl1,?_,?_⟩
  ·simp only [five,mk_backT]
  ·simp only [wtP,Rows.uptoBulk,Rows.uptoBulkAll,List.map_cons,List.map_nil] at hl2 ⊢
   omega
  ·unfold Rng
   exact ⟨range_ofJ w2,range_ofJ w3,hl3⟩
end Go.Proofs.YtmclaaonlhnbmaaGreatDoor.J
namespace Go.Proofs.YtmclaaonlhnbmaaGreatDoor.H
open Go.Lib Go.Proofs.YtmclaaonlhnbmaaGreatDoor.U Go.Proofs.YtmclaaonlhnbmaaGreatDoor.S Go.Proofs.YtmclaaonlhnbmaaGreatDoor.T Go.Proofs.YtmclaaonlhnbmaaGreatDoor.K
inductive Pc where
 | wd (w:Int) (t:By)
 | sp (l:By)
def Pc.by:Pc→By
 | .wd _ t=>t
 | .sp l=>l
def byt (l:List Pc):By:=(l.map Pc.by).flatten
theorem byt_app (a b:List Pc):byt (a++b)=byt a++byt b:=by simp [byt]
theorem byt_nil:byt []=[]:=rfl
theorem byt_wd (w:Int) (t:By) (r:List Pc):byt (.wd w t :: r)=t++byt r:=by simp [byt,Pc.by]
theorem byt_sp (l:By) (r:List Pc):byt (.sp l :: r)=l++byt r:=by simp [byt,Pc.by]
inductive Kd where
 | func|var|typ|param|name|id|num|str|star|slice|block|ret|if'|for'|assign|define|expr|unary|binary|call|field|index|new'|make'|other
deriving DecidableEq
def kd (k:By):Kd :=
 if k=kFunc then .func else if k=kVar then .var else if k=kType then .typ else if k=kParam then .param else if k=kName then .name else if k=kId then .id
 else if k=kNum then .num else if k=kStr then .str else if k=kStar then .star else if k=kSlice then .slice else if k=kBlock then .block else if k=kReturn then .ret
 else if k=kIf then .if' else if k=kFor then .for' else if k=kAssign then .assign else if k=kDefine then .define else if k=kExpr then .expr else if k=kUnary then .unary
 else if k=kBinary then .binary else if k=kCall then .call else if k=kField then .field else if k=kIndex then .index else if k=kNew then .new' else if k=kMake then .make' else .other
def strB (x:By):Nat :=
 if x=[124,124] then 1 else if x=[38,38] then 2
 else if x=[61,61]∨x=[33,61]∨x=[60]∨x=[60,61]∨x=[62]∨x=[62,61] then 3
 else if x=[43]∨x=[45] then 4 else if x=[42]∨x=[47]∨x=[37] then 5 else 0
def ksP:Pt→List Pt
 | .mk _ _ _ _ ks=>ks
def kidAt (ks:List Pt) (i:Nat):Pt:=(ks[i]?).getD zeroP
def held (b:Bool) (l:List Pc):List Pc:=if b then .wd 4 [40] :: (l++[.wd 4 [41]]) else l
def commas:List (List Pc)→List Pc
 | []=>[]
 | x :: r=>x++(r.map fun y=>.wd 4 [44] :: .sp [32] :: y).flatten
def tabs (n:Nat):By:=List.replicate n 9
def linesP (ind:Nat) (l:List (List Pc)):List Pc:=.wd 4 [123] :: ((l.map fun x=>.sp (10 :: tabs (ind+1)) :: x).flatten++((if l=[] then [] else [.sp (10 :: tabs ind)])++[.wd 4 [125]]))
def declared (S:Nat→Pt→List Pc) (q:Pt):List Pc:=if kindP q=kField then .wd 0 (textP q) :: .sp [32] :: S 1 (kidAt (ksP q) 0) else S 1 q
def called (t:By) (l:List (List Pc)):List Pc:=.wd 0 t :: .wd 4 [40] :: (commas l++[.wd 4 [41]])
def uHeld (t:By) (a:Pt):Bool:=decide (kindP a=kBinary)||(decide (t=[38])&&(decide (kindP a=kUnary)&&decide (textP a=[38])))
def lHeld (t:By) (a:Pt):Bool:=decide (kindP a=kBinary)&&decide (strB (textP a)<strB t)
def rHeld (t:By) (a:Pt):Bool:=decide (kindP a=kBinary)&&decide (strB (textP a)≤strB t)
def oHeld (a:Pt):Bool:=decide (kindP a=kBinary)||decide (kindP a=kUnary)
def bodyP (S:Nat→Pt→List Pc) (ind:Nat) (t:By) (ks:List Pt):Kd→List Pc
 | .func=>[.wd 3 kFunc,.sp [32],.wd 0 t,.wd 4 [40]]++(commas ((ksP (kidAt ks 0)).map (S ind))++([.wd 4 [41],.sp [32]]++((if ksP (kidAt ks 1)=[] then [] else S ind (kidAt (ksP (kidAt ks 1)) 0)++[.sp [32]])++S ind (kidAt ks 2))))
 | .var=>[.wd 3 kVar,.sp [32],.wd 0 t,.sp [32]]++S ind (kidAt ks 0)
 | .typ=>[.wd 3 kType,.sp [32],.wd 0 t,.sp [32],.wd 3 kStruct,.sp [32]]++linesP 0 (ks.map (declared S))
 | .param=>[.wd 0 t,.sp [32]]++S ind (kidAt ks 0)
 | .name=>[.wd 0 t]
 | .id=>[.wd 0 t]
 | .num=>[.wd 1 t]
 | .str=>[.wd 2 t]
 | .star=>.wd 4 [42] :: S ind (kidAt ks 0)
 | .slice=>.wd 4 [91] :: .wd 4 [93] :: S ind (kidAt ks 0)
 | .block=>linesP ind (ks.map (S (ind+1)))
 | .ret=>.wd 3 kReturn :: (if ks=[] then [] else .sp [32] :: S ind (kidAt ks 0))
 | .if'=>[.wd 3 kIf,.sp [32]]++(S ind (kidAt ks 0)++(.sp [32] :: (S ind (kidAt ks 1)++if 2<ks.length then [.sp [32],.wd 3 kElse,.sp [32]]++S ind (kidAt ks 2) else [])))
 | .for'=>[.wd 3 kFor,.sp [32]]++(S ind (kidAt ks 0)++(.sp [32] :: S ind (kidAt ks 1)))
 | .assign=>S ind (kidAt ks 0)++([.sp [32],.wd 4 [61],.sp [32]]++S ind (kidAt ks 1))
 | .define=>S ind (kidAt ks 0)++([.sp [32],.wd 4 [58,61],.sp [32]]++S ind (kidAt ks 1))
 | .expr=>S ind (kidAt ks 0)
 | .unary=>.wd 4 t :: held (uHeld t (kidAt ks 0)) (S ind (kidAt ks 0))
 | .binary=>held (lHeld t (kidAt ks 0)) (S ind (kidAt ks 0))++([.sp [32],.wd 4 t,.sp [32]]++held (rHeld t (kidAt ks 1)) (S ind (kidAt ks 1)))
 | .call=>called t (ks.map (S ind))
 | .field=>held (oHeld (kidAt ks 0)) (S ind (kidAt ks 0))++[.wd 4 [46],.wd 0 t]
 | .index=>held (oHeld (kidAt ks 0)) (S ind (kidAt ks 0))++(.wd 4 [91] :: (S ind (kidAt ks 1)++[.wd 4 [93]]))
 | .new'=>called kNew (ks.map (S ind))
 | .make'=>called kMake (ks.map (S ind))
 | .other=>[]
def sF:Nat→Nat→Pt→List Pc
 | 0,_,_=>[]
 | n+1,ind,.mk k t _ _ ks=>bodyP (sF n) ind t ks (kd k)
def pcs (ind:Nat) (p:Pt):List Pc:=sF (deep p) ind p
def showP (ind:Nat) (p:Pt):By:=byt (pcs ind p)
theorem deep_mem:∀ {l:List Pt} {q:Pt},q∈l→deep q≤deepL l
 | [],_,h=>by cases h
 | p :: r,q,h=>by
  rw [deepL]
  rcases List.mem_cons.1 h with h|h
  ·rw [h];exact Nat.le_max_left _ _
  ·exact Nat.le_trans (deep_mem h) (Nat.le_max_right _ _)
theorem kidAt_mem {ks:List Pt} {i:Nat} (h:i<ks.length):kidAt ks i∈ks:=by
 unfold kidAt;rw [List.getElem?_eq_getElem h];exact List.getElem_mem h
theorem kidAt_cases (ks:List Pt) (i:Nat):kidAt ks i∈ks∨kidAt ks i=zeroP:=by
 by_cases h:i<ks.length
 ·exact .inl (kidAt_mem h)
 ·exact .inr (by unfold kidAt;rw [List.getElem?_eq_none (by omega)];rfl)
theorem kids_zero:ksP zeroP=[]:=rfl
section
variable {S S':Nat→Pt→List Pc} {ks:List Pt} (h0:∀ i,S i zeroP=S' i zeroP) (h1:∀ q∈ks,∀ i,S i q=S' i q) (h2:∀ q∈ks,∀ r∈ksP q,∀ i,S i r=S' i r)
include h0 h1 h2
theorem body_congr (ind:Nat) (t:By) (k:Kd):bodyP S ind t ks k=bodyP S' ind t ks k:=by
 have ha:∀ i j,S i (kidAt ks j)=S' i (kidAt ks j):=fun i j=>by
  rcases kidAt_cases ks j with h|h
  ·exact h1 _ h i
  ·rw [h];exact h0 i
 have hb:∀ i q,q∈ks∨q=zeroP→∀ j,S i (kidAt (ksP q) j)=S' i (kidAt (ksP q) j):=fun i q hq j=>by
  rcases kidAt_cases (ksP q) j with h|h
  ·rcases hq with hq|rfl
   ·exact h2 q hq _ h i
   ·rw [kids_zero] at h;cases h
  ·rw [h];exact h0 i
 have hm:∀ i,ks.map (S i)=ks.map (S' i):=fun i=>List.map_congr_left fun q hq=>h1 q hq i
 have hd:ks.map (declared S)=ks.map (declared S'):=List.map_congr_left fun q hq=>by
  unfold declared;rw [hb 1 q (.inl hq) 0,h1 q hq 1]
 have hg:(ksP (kidAt ks 0)).map (S ind)=(ksP (kidAt ks 0)).map (S' ind):=List.map_congr_left fun r hr=>by
  rcases kidAt_cases ks 0 with h|h
  ·exact h2 _ h r hr ind
  ·rw [h,kids_zero] at hr;cases hr
 cases k <;> simp only [bodyP,ha,hm,hd,hg,hb ind _ (kidAt_cases ks 1) 0]
end
theorem sF_zero:∀ (n i:Nat),sF n i zeroP=[]
 | 0,_=>rfl
 | _+1,_=>rfl
theorem sF_deep:∀ (n m ind:Nat) (p:Pt),deep p≤n→deep p≤m→sF n ind p=sF m ind p
 | 0,_,_,.mk _ _ _ _ _,h,_=>by rw [deep] at h;omega
 | _+1,0,_,.mk _ _ _ _ _,_,h=>by rw [deep] at h;omega
 | n+1,m+1,ind,.mk k t f e ks,hn,hm=>by
  rw [deep] at hn hm
  rw [sF,sF]
  refine body_congr (fun i=>by rw [sF_zero,sF_zero]) (fun q hq i=>?_) (fun q hq r hr i=>?_) _ _ _
  ·have:=deep_mem hq
   exact sF_deep n m i q (by omega) (by omega)
  ·have h3:=deep_mem hq
   obtain ⟨k',t',f',e',ks'⟩:=q
   have h4:=deep_mem (show r∈ks' from hr)
   rw [deep] at h3
   exact sF_deep n m i r (by omega) (by omega)
theorem pcs_mk (ind:Nat) (k t:By) (f e:Int) (ks:List Pt):pcs ind (.mk k t f e ks)=bodyP pcs ind t ks (kd k):=by
 unfold pcs
 rw [deep,sF]
 refine body_congr (fun i=>by rw [sF_zero];rfl) (fun q hq i=>?_) (fun q hq r hr i=>?_) _ _ _
 ·exact sF_deep _ _ i q (deep_mem hq) (Nat.le_refl _)
 ·have h3:=deep_mem hq
  obtain ⟨k',t',f',e',ks'⟩:=q
  have h4:=deep_mem (show r∈ks' from hr)
  rw [deep] at h3
  exact sF_deep _ _ i r (by omega) (Nat.le_refl _)
mutual
def shapeP:Pt→By
 | .mk k t _ _ ks=>k++(58 :: (t++(40 :: (shapeL ks++[41]))))
def shapeL:List Pt→By
 | []=>[]
 | p :: r=>shapeP p++shapeL r
end
mutual
def alikeP:Pt→Pt→Bool
 | .mk k t _ _ ks,.mk k' t' _ _ ks'=>(k==k')&&((t==t')&&alikeL ks ks')
def alikeL:List Pt→List Pt→Bool
 | [],[]=>true
 | p :: r,q :: s=>alikeP p q&&alikeL r s
 | [],_ :: _=>false
 | _ :: _,[]=>false
end
mutual
def strip:Pt→Pt
 | .mk k t _ _ ks=>.mk k t 0 0 (stripL ks)
def stripL:List Pt→List Pt
 | []=>[]
 | p :: r=>strip p :: stripL r
end
mutual
theorem alike_iff:∀ p q,alikeP p q=true ↔ strip p=strip q
 | .mk k t f e ks,.mk k' t' f' e' ks'=>by
  rw [alikeP,strip,strip]
  simp only [Bool.and_eq_true,beq_iff_eq,Pt.mk.injEq,true_and]
  rw [alikeL_iff ks ks']
theorem alikeL_iff:∀ l m,alikeL l m=true ↔ stripL l=stripL m
 | [],[]=>by simp [alikeL,stripL]
 | [],q :: s=>by simp [alikeL,stripL]
 | p :: r,[]=>by simp [alikeL,stripL]
 | p :: r,q :: s=>by
  rw [alikeL,stripL,stripL]
  simp only [Bool.and_eq_true,List.cons.injEq]
  rw [alike_iff p q,alikeL_iff r s]
end
theorem alike_comm (p q:Pt):alikeP p q=alikeP q p:=by
 rw [Bool.eq_iff_iff,alike_iff,alike_iff];exact eq_comm
theorem stripL_map:∀ l,stripL l=l.map strip
 | []=>rfl
 | p :: r=>by rw [stripL,stripL_map r];rfl
theorem strip_kind (p:Pt):kindP (strip p)=kindP p∧textP (strip p)=textP p∧ksP (strip p)=stripL (ksP p):=by cases p;rw [strip];exact ⟨rfl,rfl,rfl⟩
theorem kidAt_strip (ks:List Pt) (i:Nat):kidAt (stripL ks) i=strip (kidAt ks i):=by
 unfold kidAt
 rw [stripL_map,List.getElem?_map]
 cases ks[i]? <;> rfl
mutual
theorem deep_strip:∀ p,deep (strip p)=deep p
 | .mk k t f e ks=>by rw [strip,deep,deep,deepL_strip ks]
theorem deepL_strip:∀ l,deepL (stripL l)=deepL l
 | []=>rfl
 | p :: r=>by rw [stripL,deepL,deepL,deep_strip p,deepL_strip r]
end
mutual
theorem shape_strip:∀ p,shapeP (strip p)=shapeP p
 | .mk k t f e ks=>by rw [strip,shapeP,shapeP,shapeL_strip ks]
theorem shapeL_strip:∀ l,shapeL (stripL l)=shapeL l
 | []=>rfl
 | p :: r=>by rw [stripL,shapeL,shapeL,shape_strip p,shapeL_strip r]
end
theorem sF_strip:∀ (n i:Nat) (p:Pt),sF n i (strip p)=sF n i p
 | 0,_,.mk _ _ _ _ _=>rfl
 | n+1,i,.mk k t f e ks=>by
  rw [strip,sF,sF]
  have h:=sF_strip n
  have hm:∀ (l:List Pt) i,(stripL l).map (sF n i)=l.map (sF n i):=fun l i=>by
   rw [stripL_map,List.map_map];exact List.map_congr_left fun q _=>h i q
  have hd:(stripL ks).map (declared (sF n))=ks.map (declared (sF n)):=by
   rw [stripL_map,List.map_map]
   refine List.map_congr_left fun q _=>?_
   obtain ⟨a,b,c⟩:=strip_kind q
   simp only [Function.comp,declared,a,b,c,kidAt_strip,h]
  have hn:∀ l,(stripL l=[])=(l=[]):=fun l=>by cases l <;> simp [stripL]
  have hl:∀ l,(stripL l).length=l.length:=fun l=>by rw [stripL_map,List.length_map]
  have e1:∀ t q,uHeld t (strip q)=uHeld t q:=fun t q=>by obtain ⟨a,b,_⟩:=strip_kind q;simp only [uHeld,a,b]
  have e2:∀ t q,lHeld t (strip q)=lHeld t q:=fun t q=>by obtain ⟨a,b,_⟩:=strip_kind q;simp only [lHeld,a,b]
  have e3:∀ t q,rHeld t (strip q)=rHeld t q:=fun t q=>by obtain ⟨a,b,_⟩:=strip_kind q;simp only [rHeld,a,b]
  have e4:∀ q,oHeld (strip q)=oHeld q:=fun q=>by obtain ⟨a,b,_⟩:=strip_kind q;simp only [oHeld,a]
  have e5:∀ q,ksP (strip q)=stripL (ksP q):=fun q=>(strip_kind q).2.2
  cases kd k <;> simp only [bodyP,kidAt_strip,h,hm,hd,hl,hn,e1,e2,e3,e4,e5]
theorem pcs_strip (ind:Nat) (p:Pt):pcs ind (strip p)=pcs ind p:=by unfold pcs;rw [deep_strip,sF_strip]
theorem alike_show {p q:Pt} (h:alikeP p q=true) (ind:Nat):showP ind p=showP ind q:=by
 unfold showP;rw [← pcs_strip ind p,(alike_iff p q).1 h,pcs_strip]
theorem alike_shape {p q:Pt} (h:alikeP p q=true):shapeP p=shapeP q:=by
 rw [← shape_strip p,(alike_iff p q).1 h,shape_strip]
theorem alike_deep {p q:Pt} (h:alikeP p q=true):deep p=deep q:=by
 rw [← deep_strip p,(alike_iff p q).1 h,deep_strip]
end Go.Proofs.YtmclaaonlhnbmaaGreatDoor.H
namespace Go.Proofs.YtmclaaonlhnbmaaGreatDoor.H
open Go.RowKit
open Go.Lib hiding intOf
open U S T K
structure Bx (T:TypeId) (ex:List Value) (d:Nat) (bs:By) (W:World):Prop where
 at':∃ p v,W.heap[d]?=some (.cells (p :: v :: ex).toArray T (0,0))∧(p=.pointer none∨p=.pointer (some ⟨d,0,none⟩))∧W.ownsRowF d 5 1 v bs.length (byteCells bs)∧(bs=[]→v=.slice none 0 0)
structure Kp (d:Nat) (W W':World):Prop where
 below:Below d W W'
 oth:OthersKept 5 (some d) W W'
theorem Kp.refl (d:Nat) (W:World):Kp d W W:=⟨Below.refl _ _,OthersKept.refl _ _ _⟩
theorem Kp.trans {d:Nat} {A B C:World} (h:Kp d A B) (k:Kp d B C):Kp d A C:=⟨h.below.trans k.below,h.oth.trans k.oth⟩
theorem Kp.later {d:Nat} {A B C:World} (h:Kp d A B) (hb:Below B.heap.size B C) (hd:d≤B.heap.size):Kp d A C:=⟨h.below.trans (hb.mono hd),h.oth.below hb⟩
theorem Bx.lt {T:TypeId} {ex:List Value} {d:Nat} {bs:By} {W:World} (h:Bx T ex d bs W):d<W.heap.size:=by
 obtain ⟨p,v,h,_⟩:=h.at'
 exact (Array.getElem?_eq_some_iff.1 h).1
theorem Bx.later {T:TypeId} {ex:List Value} {d:Nat} {bs:By} {W W':World} (h:Bx T ex d bs W) (hb:Below W.heap.size W W'):Bx T ex d bs W':=by
 have hl:=h.lt
 obtain ⟨p,v,h,hp,ho,hn⟩:=h.at'
 refine ⟨p,v,(hb.block _ hl).trans h,hp,?_,hn⟩
 refine ⟨ho.1,?_⟩
 rcases ho.2 with h2|⟨g,cap,cur,fz,h3,h4,h5,r⟩
 ·exact .inl h2
 ·exact .inr ⟨g,cap,cur,fz,h3,h4,(hb.block _ (Array.getElem?_eq_some_iff.1 h5).1).trans h5,r⟩
theorem infoU:(Tryz.prog.info? 5).map (fun i=>(i.zero,i.size,i.bytes))=some (some (.int .u8 0),1,1):=by kernel_rfl
theorem sizeB:(Tryz.prog.info? 54).map (·.size)=some 2:=by kernel_rfl
section
variable {T:TypeId} {ex:List Value} (hT:T≠5) (hlie:liesAt Tryz.prog Tryz.prog.depth T ((ex.length+2) / Tryz.prog.cellsOf T) 0 54 1=true)
include hT hlie
set_option maxHeartbeats 4000000 in
set_option maxRecDepth 100000 in
theorem copy_any {d:Nat} {bs:By} {W:World} (h:Bx T ex d bs W) :
  Calls Tryz.prog 114 #[.pointer (some ⟨d,0,none⟩)] W fun e W'=>e=.returned (.tuple #[])∧Kp d W W'∧(∃ v,W'.heap[d]?=some (.cells (.pointer (some ⟨d,0,none⟩) :: v :: ex).toArray T (0,0))∧W'.ownsRowF d 5 1 v bs.length (byteCells bs)∧(bs=[]→v=.slice none 0 0)):=by
 obtain ⟨j,hj,hjs⟩:=Option.map_eq_some_iff.1 sizeB
 obtain ⟨p,v,hb,hp,ho,hn⟩:=h.at'
 have c0:W.cell? ⟨d,0,none⟩=some p:=by rw [Lib.cell_of_heap hb];rfl
 have f0:W.frozen? ⟨d,0,none⟩=false:=Lib.frozen_of_heap hb 0
 have hsh:W.shape? d=some (T,ex.length+2):=by simp [World.shape?,hb]
 have hx:W.ownsRowF d 5 1 v bs.length (byteCells bs):=ho
 rcases hp with rfl|rfl
 ·have hq:(W.setCell ⟨d,0,none⟩ (.pointer (some ⟨d,0,none⟩))).heap[d]?=some (.cells (.pointer (some ⟨d,0,none⟩) :: v :: ex).toArray T (0,0)):=by
   rw [Go.Joins.block_setCell hb]
   simp only [List.setIfInBounds_toArray,List.set_cons_zero]
  have hne:=ownBlock_neF ho hb hT
  have hk:Kp d W (W.setCell ⟨d,0,none⟩ (.pointer (some ⟨d,0,none⟩))):=⟨(Below.refl _ _).setCell (p:=⟨d,0,none⟩) (Nat.le_refl _) _,(OthersKept.refl _ _ _).setCell ⟨d,0,none⟩ rfl _⟩
  have ho2:(W.setCell ⟨d,0,none⟩ (.pointer (some ⟨d,0,none⟩))).ownsRowF d 5 1 v bs.length (byteCells bs) :=
   ho.kept (row:=some d) ⟨rfl,rfl,rfl,by simp [World.setCell],fun k _ hk=>Below.heap_setCell _ _ _ _ (fun e=>hk (by simp [e]))⟩ (Or.inr hne)
  have hfin:=hid (show Kp d W _∧∃ v,(W.setCell ⟨d,0,none⟩ (.pointer (some ⟨d,0,none⟩))).heap[d]?=some (.cells (.pointer (some ⟨d,0,none⟩) :: v :: ex).toArray T (0,0))∧(W.setCell ⟨d,0,none⟩ (.pointer (some ⟨d,0,none⟩))).ownsRowF d 5 1 v bs.length (byteCells bs)∧(bs=[]→v=.slice none 0 0) from ⟨hk,v,hq,ho2,hn⟩)
  clear hq hne hk ho2 hn ho hx hb h
  go_enter Tryz.func114,Tryz.ntmps114
  go_wp2
  rw [Lib.run_to_unsafe W ⟨d,0,none⟩ Tryz.underlying51 Tryz.underlying123 hj (by rw [hjs];decide) hsh (by show 0<_;omega)]
  simp only [Result.andThen]
  rw [Oper.upon_value]
  go_wp2
  rw [run_callFunc_extern Tryz.func144 (by kernel_rfl) (by kernel_rfl) (by kernel_rfl) (e:=Extern.AbiNoEscape.same) (by kernel_rfl)]
  rw [Lib.run_noEscape]
  simp only [Result.andThen]
  rw [Oper.upon_value]
  go_wp2
  rw [Lib.run_from_unsafe W ⟨d,0,none⟩ Tryz.underlying123 Tryz.underlying51 hj hsh hlie]
  simp only [Result.andThen]
  rw [Oper.upon_value]
  go_wp2
  go_end0
  exact ⟨rfl,hfin.out⟩
 ·have hfin:=hid (show Kp d W W∧∃ v,W.heap[d]?=some (.cells (.pointer (some ⟨d,0,none⟩) :: v :: ex).toArray T (0,0))∧W.ownsRowF d 5 1 v bs.length (byteCells bs)∧(bs=[]→v=.slice none 0 0) from ⟨Kp.refl d W,v,hb,hx,hn⟩)
  clear ho hx hn hb h
  go_enter Tryz.func114,Tryz.ntmps114
  go_wp2
  rw [Lib.run_neq_ptr_same W _ Tryz.underlying51 hj]
  go_wp2
  go_end0
  exact ⟨rfl,hfin.out⟩
set_option maxHeartbeats 4000000 in
set_option maxRecDepth 100000 in
theorem wstr_any {d:Nat} {bs:By} {W:World} (h:Bx T ex d bs W) (s:ByteArray) (hl:bs.length+s.size≤140737488355328) :
  Calls Tryz.prog 76 #[.pointer (some ⟨d,0,none⟩),.string s] W fun e W'=>e=.returned (.tuple #[.int .i64 s.size,.nilIface])∧Bx T ex d (bs++s.data.toList) W'∧Kp d W W':=by
 obtain ⟨i0,hi,hz0,hz1,hz2⟩:=info_parts infoU
 have cC:=copy_any hT hlie h
 have hlt:=h.lt
 clear h
 go_enter Tryz.func76,Tryz.ntmps76
 go_wp2_with fail
 refine cC.mono ?_
 rintro e w1 ⟨rfl,hk1,v,hb1,ho1,hn1⟩
 have c0:w1.cell? ⟨d,0,none⟩=some (.pointer (some ⟨d,0,none⟩)):=by rw [Lib.cell_of_heap hb1];rfl
 have c1:w1.cell? ⟨d,1,none⟩=some v:=by rw [Lib.cell_of_heap hb1];rfl
 clear cC
 go_wp2_with (at_builtin;refine Lib.wpList_append_own_stringF _ rfl _ _ 52 9 rfl d 5 i0 Tryz.underlying52 Tryz.underlying9 hi hz0 hz1 hz2 _ _ _ rfl ho1 s rfl ?c3 ?c4 ?c5 ?_)
 case c3=>unfold maxLen;omega
 case c4=>omega
 case c5=>have:=hk1.below.size;omega
 intro v' w2 hown' hgrow hnil
 have hne:=ownBlock_neF ho1 hb1 hT
 have hlt1:d<w1.heap.size:=(Array.getElem?_eq_some_iff.1 hb1).1
 have hb2:w2.heap[d]?=some (.cells (.pointer (some ⟨d,0,none⟩) :: v :: ex).toArray T (0,0)):=by
  rw [hgrow.block d hlt1 (fun e=>hne e.symm)]
  exact hb1
 have d0:w2.cell? ⟨d,0,none⟩=some (.pointer (some ⟨d,0,none⟩)):=by rw [Lib.cell_of_heap hb2];rfl
 have d1:w2.cell? ⟨d,1,none⟩=some v:=by rw [Lib.cell_of_heap hb2];rfl
 have f1:w2.frozen? ⟨d,1,none⟩=false:=Lib.frozen_of_heap hb2 1
 have hfin:Bx T ex d (bs++s.data.toList) (w2.setCell ⟨d,1,none⟩ v')∧Kp d W (w2.setCell ⟨d,1,none⟩ v'):=by
  have hq:(w2.setCell ⟨d,1,none⟩ v').heap[d]?=some (.cells (.pointer (some ⟨d,0,none⟩) :: v' :: ex).toArray T (0,0)):=by
   rw [Go.Joins.block_setCell hb2]
   simp only [List.setIfInBounds_toArray,List.set_cons_zero,List.set_cons_succ]
  have hne':=ownBlock_neF hown' hb2 hT
  have hsz:s.size=s.data.toList.length:=by rw [Array.length_toList];rfl
  refine ⟨⟨_,v',hq,.inr rfl,?_,fun hnn=>?_⟩,hk1.trans ⟨?_,?_⟩⟩
  ·have e1:(bs++s.data.toList).length=bs.length+s.size:=by rw [List.length_append,hsz]
   rw [e1,byteCells_append,← strCells_eq]
   exact hown'.kept (row:=some d) ⟨rfl,rfl,rfl,by simp [World.setCell],fun k _ hk=>Below.heap_setCell _ _ _ _ (fun e=>hk (by simp [e]))⟩ (Or.inr hne')
  ·obtain ⟨h1,h2⟩:=List.append_eq_nil_iff.1 hnn
   have hs0:s.size=0:=by rw [hsz,h2];rfl
   exact hnil.2 ⟨hn1 h1,by first|exact hs0|exact ByteArray.size_eq_zero_iff.1 hs0⟩
  ·exact ((Below.refl d w1).grown hgrow (by omega) (fun k hk=>(ho1.lt k hk).1)).setCell (p:=⟨d,1,none⟩) (Nat.le_refl _) _
  ·refine OthersKept.setCell ?_ ⟨d,1,none⟩ rfl _
   intro k o hko hkd hnc
   have hkl:=(Array.getElem?_eq_some_iff.1 hko).1
   rw [hgrow.block k hkl (fun e=>?_)]
   ·exact hko
   ·rcases ho1.2 with ⟨hv,_⟩|⟨g,cap,cur,fz,hv,_,hg,_⟩
    ·rw [hv] at e;cases e
    ·rw [hv] at e
     have e:k=g:=by simpa [Value.ownBlock] using e
     subst e
     rw [hg] at hko;cases hko
     exact hnc _ _ rfl
 obtain ⟨ao,n',cap,rfl⟩:∃ ao n' cap,v'=.slice ao n' cap:=by
  rcases hown'.2 with ⟨hv,_⟩|⟨g,cap,cur,fz,hv,_⟩
  ·exact ⟨_,_,_,hv⟩
  ·exact ⟨_,_,_,hv⟩
 have hfin:=hid hfin
 clear hgrow hown' hnil hb2 hb1 ho1 hn1 hk1
 go_wp2
 go_ret2
 exact ⟨rfl,hfin.out⟩
omit hlie in
set_option maxHeartbeats 4000000 in
set_option maxRecDepth 100000 in
theorem bstr_any {d:Nat} {bs:By} {W:World} (h:Bx T ex d bs W) :
  Calls Tryz.prog 29 #[.pointer (some ⟨d,0,none⟩)] W fun e W'=>e=.returned (.string (bstr bs))∧Below d W W':=by
 have _h:=hT
 have mixed:Tryz.prog.follows .mixedOrders=true:=by kernel_rfl
 obtain ⟨p,v,hbk,hp,hown,hn⟩:=h.at'
 by_cases h0:bs=[]
 ·have hv:=hn h0
  subst hv;subst h0
  have hUS:=fun X:World=>Lib.run_unsafeString_none (P:=Tryz.prog) X 86 3 9 none
  have c1:W.drew.cell? ⟨d,1,none⟩=some (.slice none 0 0):=by
   have:W.drew.heap[d]?=some (.cells (p :: .slice none 0 0 :: ex).toArray T (0,0)):=hbk
   rw [Lib.cell_of_heap this];rfl
  have hSD:(Builtin.unsafeSliceData_ #[52] 86 #[.slice none 0 0]).run Tryz.prog W.drew=.ok (.pointer none) W.drew:=rfl
  clear hown hn hbk h
  go_enter Tryz.func29,Tryz.ntmps29
  go_wp2
  go_region_o
  all_goals (go_wp2;go_ret;exact ⟨rfl,Below.drew (Below.refl d W)⟩)
 ·have hl0:bs.length≠0:=by simpa using h0
  obtain ⟨g,cap,cur,fz,rfl,hbg,hg,hfz,hnc,hcm,hcs,htake⟩:∃ g cap cur fz,v=.slice (some ⟨g,0,none⟩) bs.length cap∧d≤g∧W.heap[g]?=some (.cells cur 5 fz)∧fz.2≤bs.length*1∧bs.length≤cap∧cap≤maxLen∧cur.size=cap*1∧cur.toList.take (bs.length*1)=Lib.byteCells bs:=by
   rcases hown.2 with ⟨_,hz⟩|⟨g,cap,cur,fz,hv,r⟩
   ·exact absurd hz hl0
   ·exact ⟨g,cap,cur,fz,hv,r⟩
  have c1:W.drew.cell? ⟨d,1,none⟩=some (.slice (some ⟨g,0,none⟩) bs.length cap):=by
   have:W.drew.heap[d]?=some (.cells (p :: .slice (some ⟨g,0,none⟩) bs.length cap :: ex).toArray T (0,0)):=hbk
   rw [Lib.cell_of_heap this];rfl
  have hSD:(Builtin.unsafeSliceData_ #[52] 86 #[.slice (some ⟨g,0,none⟩) bs.length cap]).run Tryz.prog W.drew=.ok (.pointer (some ⟨g,0,none⟩)) W.drew :=
   Lib.run_unsafeSliceData_row _ _ _ _ _ _ (by omega)
  have hUS:(Builtin.unsafeString_ #[86,3] 9 #[.pointer (some ⟨g,0,none⟩),.int .i64 bs.length]).run Tryz.prog W.drew=.ok (.string ⟨bs.toArray⟩) (W.drew.freeze ⟨g,0,none⟩ bs.length):=by
   refine Lib.run_unsafeString_row W.drew 86 3 9 5 Tryz.underlying86 (by kernel_rfl) g cur.size (by have hg':W.drew.heap[g]?=some (.cells cur 5 fz):=hg;simp [World.shape?,hg']) bs h0 (by omega) (by unfold maxLen at hcm;omega) ?_
   intro j x hx
   have:=hown.cells (g:=g) rfl j (.int .u8 x.toNat) (by simp [Lib.byteCells,hx])
   exact this
  have hfin:=Lib.below_freeze (Below.drew (Below.refl d W)) (p:=⟨g,0,none⟩) hbg bs.length
  obtain ⟨n,hnn⟩:∃ n,bs.length=n:=⟨_,rfl⟩
  have HF:=hid hfin
  have HN:=hid hnn
  rw [hnn] at c1 hSD hUS hnc
  obtain ⟨sb,hsb⟩:∃ x:ByteArray,(⟨bs.toArray⟩:ByteArray)=x:=⟨_,rfl⟩
  have hsb2:bstr bs=sb:=hsb
  rw [hsb] at hUS
  rw [hsb2]
  clear hown hn hbk h hg htake hcs hcm hfz h0 hl0 hfin hnn hsb hsb2
  go_enter Tryz.func29,Tryz.ntmps29
  go_wp2
  go_region_o
  all_goals (go_wp2;go_ret;exact ⟨rfl,by have:=HF.out;rw [HN.out] at this;exact this⟩)
end
end Go.Proofs.YtmclaaonlhnbmaaGreatDoor.H
namespace Go.Proofs.YtmclaaonlhnbmaaGreatDoor.H
open Go.RowKit
open Go.Lib hiding intOf
open U S T K
def fnElem:Value→Option (DataW Unit × List MemPlace)
 | .func (.func f) a b=>if a.size=0∧b.size=0 then some (.lit (.int .i64 f),[]) else none
 | .nilFunc=>some (.lit (.bool false),[])
 | _=>none
def fnV (f:Nat):Value:=.func (.func f) #[] #[]
def fnD (f:Nat):DataW Unit:=.lit (.int .i64 f)
theorem fnElem_mk (f:Nat):fnElem (fnV f)=some (fnD f,[]):=rfl
theorem fnElem_inv {v:Value} {f:Nat} {ps:List MemPlace} (h:fnElem v=some (fnD f,ps)):v=fnV f:=by
 unfold fnElem at h
 split at h
 ·rename_i g a b
  split at h
  ·rename_i hab
   obtain ⟨h1,h2⟩:=hab
   have e1:a=#[]:=Array.size_eq_zero_iff.1 h1
   have e2:b=#[]:=Array.size_eq_zero_iff.1 h2
   simp only [fnD,Option.some.injEq,Prod.mk.injEq,DataW.lit.injEq,Lit.int.injEq,true_and] at h
   have e3:g=f:=by first|exact h.1|exact h|(have:=h.1;exact Int.ofNat.inj this)
   subst e1;subst e2;subst e3;rfl
  ·cases h
 ·simp [fnD] at h
 ·cases h
theorem fnElem_nil {v:Value} {ps:List MemPlace} (h:fnElem v=some (.lit (.bool false),ps)):v=.nilFunc:=by
 unfold fnElem at h
 split at h
 ·split at h
  ·simp at h
  ·cases h
 ·rfl
 ·cases h
def fnK:Kd→Option Nat
 | .func=>some 55
 | .var=>some 56
 | .typ=>some 57
 | .param=>some 58
 | .name=>some 59
 | .id=>some 59
 | .num=>some 59
 | .str=>some 59
 | .star=>some 60
 | .slice=>some 61
 | .block=>some 62
 | .ret=>some 63
 | .if'=>some 64
 | .for'=>some 65
 | .assign=>some 66
 | .define=>some 67
 | .expr=>some 68
 | .unary=>some 69
 | .binary=>some 70
 | .call=>some 71
 | .field=>some 72
 | .index=>some 73
 | .new'=>some 74
 | .make'=>some 75
 | .other=>none
def fnOf (k:By):Option Nat:=fnK (kd k)
def klit (k:By):Lit:=.string k
def TMap (m:Nat) (W:World):Prop:=∃ n D,W.ownsMap Tryz.prog 9 fnElem m n D∧∀ k:By,Maps.has D (klit k)=(fnOf k).isSome∧∀ f,fnOf k=some f→∀ z,D.atKey (klit k) z=fnD f
theorem TMap.kept {m:Nat} {W W':World} (h:TMap m W) (hb:W'.heap[m]?=W.heap[m]?):TMap m W':=by
 obtain ⟨n,D,⟨es,clock,h1,r⟩,h2⟩:=h
 exact ⟨n,D,⟨es,clock,hb.trans h1,r⟩,h2⟩
theorem TMap.lt {m:Nat} {W:World} (h:TMap m W):m<W.heap.size:=by
 obtain ⟨n,D,h1,_⟩:=h
 exact h1.lt
theorem strK:Maps.Keyed Tryz.prog 9:=Maps.string_keyed Tryz.underlying9
theorem zeroFn (w:World):(zeroValue 83).run Tryz.prog w=.ok .nilFunc w:=by kernel_rfl
theorem keyIs {k:By} (hn:k.length≤1099511627776):keyOf Tryz.prog 9 (.string (bstr k))=some (klit k):=WideMaps.keyOf_string_mk Tryz.underlying9 (Nat.le_trans (Nat.le_of_eq (show k.toArray.size=k.length by simp)) (by unfold maxLen;omega))
theorem TMap.look {m:Nat} {W:World} (h:TMap m W) {k:By} (hn:k.length≤1099511627776) :
  (Instr.lookup 49 (.map (some m)) (.string (bstr k)) true).run Tryz.prog W=.ok (.tuple #[match fnOf k with|some f=>fnV f|none=>.nilFunc,.bool (fnOf k).isSome]) W:=by
 obtain ⟨n,D,h1,h2⟩:=h
 obtain ⟨v,ps,hrun,hv⟩:=h1.look_ok strK Tryz.underlying49 (zeroFn W) (zd:=.lit (.bool false)) (zp:=[]) rfl (keyIs hn)
 obtain ⟨h3,h4⟩:=h2 k
 rw [hrun,h3]
 cases hf:fnOf k with
 | none =>
  rw [hf] at h3
  rw [Maps.atKey_of_not_has (by rw [h3];rfl)] at hv
  rw [fnElem_nil hv]
 | some f =>
  rw [h4 f hf] at hv
  rw [fnElem_inv hv]
def exW (m ind:Nat):List Value:=[.map (some m),.int .i64 ind]
structure Wr (d m ind:Nat) (bs:By) (W:World):Prop where
 bx:Bx 56 (exW m ind) d bs W
 tab:TMap m W
 ml:m<d
theorem Wr.later {d m ind:Nat} {bs:By} {W W':World} (h:Wr d m ind bs W) (hb:Below W.heap.size W W'):Wr d m ind bs W' :=
 ⟨h.bx.later hb,h.tab.kept (hb.block _ h.tab.lt),h.ml⟩
theorem Wr.cells {d m ind:Nat} {bs:By} {W:World} (h:Wr d m ind bs W):W.cell? ⟨d,1+1,none⟩=some (.map (some m))∧W.cell? ⟨d,2,none⟩=some (.map (some m))∧W.cell? ⟨d,3,none⟩=some (.int .i64 ind)∧W.frozen? ⟨d,3,none⟩=false:=by
 obtain ⟨p,v,hb,_⟩:=h.bx.at'
 refine ⟨?_,?_,?_,Lib.frozen_of_heap hb 3⟩ <;> (rw [Lib.cell_of_heap hb];rfl)
theorem hTw:56≠5:=by decide
theorem lieW (m ind:Nat):liesAt Tryz.prog Tryz.prog.depth 56 (((exW m ind).length+2) / Tryz.prog.cellsOf 56) 0 54 1=true:=by kernel_rfl
def Writes (d m ind:Nat) (bs:By) (W:World) (x:By) (e:Ending) (W':World):Prop:=e=.returned (.tuple #[])∧Wr d m ind (bs++x) W'∧Kp d W W'
theorem ww_any {d m ind:Nat} {bs:By} {W:World} (h:Wr d m ind bs W) (s:ByteArray) (hl:bs.length+s.size≤140737488355328) :
  Calls Tryz.prog 76 #[.pointer (some ⟨d,0,none⟩),.string s] W fun e W'=>e=.returned (.tuple #[.int .i64 s.size,.nilIface])∧Wr d m ind (bs++s.data.toList) W'∧Kp d W W' :=
 (wstr_any hTw (lieW m ind) h.bx s hl).mono fun _ _ ⟨h1,h2,h3⟩=>⟨h1,⟨h2,h.tab.kept (h3.below.block _ h.ml),h.ml⟩,h3⟩
theorem ws_any {d m ind:Nat} {bs:By} {W:World} (h:Wr d m ind bs W):Calls Tryz.prog 29 #[.pointer (some ⟨d,0,none⟩)] W fun e W'=>e=.returned (.string (bstr bs))∧Below d W W':=bstr_any hTw h.bx
def cat (xs:List ByteArray):By:=(xs.map fun s=>s.data.toList).flatten
theorem cat_take {xs:List ByteArray} {i:Nat} (h:i<xs.length):cat (xs.take (i+1))=cat (xs.take i)++xs[i].data.toList:=by
 unfold cat
 rw [List.take_succ_eq_append_getElem h,List.map_append,List.flatten_append];simp
theorem cat_take_len (xs:List ByteArray) (i:Nat):(cat (xs.take i)).length≤(cat xs).length:=by
 have h:cat xs=cat (xs.take i)++cat (xs.drop i):=by unfold cat;rw [← List.flatten_append,← List.map_append,List.take_append_drop]
 rw [h,List.length_append];omega
set_option maxHeartbeats 4000000 in
set_option maxRecDepth 20000 in
theorem write_any {d m ind:Nat} {bs:By} {W:World} (h:Wr d m ind bs W) (xs:List ByteArray) (g c:Nat) (hg:W.heap[g]?=some (.cells (xs.map Value.string).toArray 9 (0,0))) (hgd:g≠d) (hx:xs.length≤1000) (hl:bs.length+(cat xs).length≤140737488355328) :
  Calls Tryz.prog 102 #[.pointer (some ⟨d,0,none⟩),.slice (some ⟨g,0,none⟩) xs.length c] W (Writes d m ind bs W (cat xs)):=by
 have HW:=hid h
 have HG:=hid hg
 have HL:=hid hl
 obtain ⟨n,hn⟩:∃ n,xs.length=n:=⟨_,rfl⟩
 have HN:=hid hn
 rw [hn]
 rw [hn] at hx
 clear h hg hl hn
 go_enter Tryz.func102,Tryz.ntmps102
 go_wp2_with fail
 go_loopw [8] (fun iv wr=>∃ i:Nat,iv=.int .i64 i∧i≤n∧Hid (Wr d m ind (bs++cat (xs.take i)) wr)∧Hid (Kp d W wr)) (fun iv _=>n - (Go.RowKit.intOf iv).toNat)
 case atStart=>exact ⟨0,rfl,Nat.zero_le _,hid (by rw [List.take_zero];exact (by simpa [cat] using HW.out)),hid (Kp.refl _ _)⟩
 case round =>
  obtain ⟨i,rfl,hi,HR,HK⟩:=hrel
  by_cases hlt:i<n
  ·have hll:i<xs.length:=by rw [HN.out];exact hlt
   have hgr:=HK.out.oth _ _ HG.out (by simp [hgd]) (fun _ _ e=>absurd (Obj.cells.inj e).2.1 (by decide))
   have hc:wr.cell? ⟨g,i,none⟩=some (.string xs[i]):=by rw [Lib.cell_of_heap hgr];simp [hll]
   have hct:=cat_take hll
   have htl:=cat_take_len xs (i+1)
   obtain ⟨s,hs⟩:∃ s,xs[i]=s:=⟨_,rfl⟩
   rw [hs] at hc hct
   have hsz:s.size=s.data.toList.length:=by rw [Array.length_toList];rfl
   have cW:=ww_any HR.out s (by have:=HL.out;rw [hct] at htl;simp only [List.length_append] at htl ⊢;omega)
   have HC:=hid hct
   have hi1:(i:Int)<(n:Int):=by omega
   clear hgr hct htl hs hsz
   go_wp2_with fail
   refine cW.mono ?_
   rintro e w2 ⟨rfl,hw2,hk2⟩
   have HR2:=hid hw2
   have HK2:=hid (HK.out.trans hk2)
   clear cW hw2 hk2
   go_wp2_with fail
   go_roundw
   case rel=>exact ⟨i+1,by go_num,by omega,hid (by rw [HC.out,← List.append_assoc];exact HR2.out),HK2⟩
   case measure=>simp [Go.RowKit.intOf];omega
  ·obtain rfl:i=n:=by omega
   go_wp2_with fail
   go_end0
   refine ⟨rfl,?_,HK.out⟩
   have:=HR.out
   rw [List.take_of_length_le (by rw [HN.out];exact Nat.le_refl _)] at this
   exact this
section
variable {d m ind:Nat} {bs:By} {W:World} (h:Wr d m ind bs W)
include h
theorem write_new (xs:List ByteArray) (hx:xs.length≤1000) (hl:bs.length+(cat xs).length≤140737488355328) :
  Calls Tryz.prog 102 #[.pointer (some ⟨d,0,none⟩),.slice (some ⟨W.heap.size,0,none⟩) xs.length xs.length] (W.alloc (.cells (xs.map Value.string).toArray 9)) (Writes d m ind bs W (cat xs)):=by
 have hb:Below W.heap.size W (W.alloc (.cells (xs.map Value.string).toArray 9)):=(Below.refl _ _).alloc (Nat.le_refl _) _
 have hlt:=h.bx.lt
 refine (write_any (h.later hb) xs W.heap.size xs.length (heap_alloc_new _ _) (by omega) hx hl).mono fun _ _ ⟨h1,h2,h3⟩=>⟨h1,h2,?_⟩
 exact ((Kp.refl d W).later hb (by omega)).trans h3
theorem write1 (a:ByteArray) (x:By) (hx:a.data.toList=x) (hl:bs.length+x.length≤140737488355328) :
  Calls Tryz.prog 102 #[.pointer (some ⟨d,0,none⟩),.slice (some ⟨W.heap.size,0,none⟩) 1 1] (W.alloc (.cells #[.string a] 9)) (Writes d m ind bs W x):=by
 have e:cat [a]=x:=by simp [cat,hx]
 have:=write_new h [a] (by simp) (by rw [e];exact hl)
 rw [e] at this;exact this
theorem write2 (a b:ByteArray) (x:By) (hx:a.data.toList++b.data.toList=x) (hl:bs.length+x.length≤140737488355328) :
  Calls Tryz.prog 102 #[.pointer (some ⟨d,0,none⟩),.slice (some ⟨W.heap.size,0,none⟩) 2 2] (W.alloc (.cells #[.string a,.string b] 9)) (Writes d m ind bs W x):=by
 have e:cat [a,b]=x:=by simp [cat,← hx]
 have:=write_new h [a,b] (by simp) (by rw [e];exact hl)
 rw [e] at this;exact this
theorem write3 (a b c:ByteArray) (x:By) (hx:a.data.toList++(b.data.toList++c.data.toList)=x) (hl:bs.length+x.length≤140737488355328) :
  Calls Tryz.prog 102 #[.pointer (some ⟨d,0,none⟩),.slice (some ⟨W.heap.size,0,none⟩) 3 3] (W.alloc (.cells #[.string a,.string b,.string c] 9)) (Writes d m ind bs W x):=by
 have e:cat [a,b,c]=x:=by simp [cat,← hx]
 have:=write_new h [a,b,c] (by simp) (by rw [e];exact hl)
 rw [e] at this;exact this
end
end Go.Proofs.YtmclaaonlhnbmaaGreatDoor.H
namespace Go.Proofs.YtmclaaonlhnbmaaGreatDoor.H
open Go.RowKit
open Go.Lib hiding intOf
open U S T K
open Go.Proofs.YtmclaaonlhnbmaaGreatDoor.J (arg wtP wtL kids_row kid_at KidAt new_block kids_below Pt.ind wtL_mem wtL_length)
abbrev Lies (d:Nat) (p:Pt) (lv:Value) (W:World):Prop:=KidsIn W (fun g=>g<d) p lv
theorem Lies.later {d:Nat} {p:Pt} {lv:Value} {W W':World} (h:Lies d p lv W) (hb:Below d W W'):Lies d p lv W':=KidsIn.later (fun g hg _=>hb.block g hg) (fun _ h=>h) p lv h
structure Fr (d m ind:Nat) (bs:By) (p:Pt) (lv:Value) (cs:Array Value) (b:Nat) (W0 W:World):Prop where
 wr:Wr d m ind bs W
 lies:Lies d p lv W
 box:W.heap[b]?=some (.cells cs 25 (0,0))
 bd:d<b
 kp:Kp d W0 W
theorem Fr.begin {d m ind:Nat} {bs:By} {p:Pt} {lv:Value} {cs:Array Value} {W W1:World} (h:Wr d m ind bs W) (hl:Lies d p lv W) (hb:Below W.heap.size W W1) (hq:W1.heap[W.heap.size]?=some (.cells cs 25 (0,0))):Fr d m ind bs p lv cs W.heap.size W W1 :=
 ⟨h.later hb,hl.later (hb.mono (Nat.le_of_lt h.bx.lt)),hq,h.bx.lt,(Kp.refl d W).later hb (Nat.le_of_lt h.bx.lt)⟩
theorem Fr.step {d m ind ind':Nat} {bs bs':By} {p:Pt} {lv:Value} {cs:Array Value} {b:Nat} {W0 W W':World} (h:Fr d m ind bs p lv cs b W0 W) (hw:Wr d m ind' bs' W') (hk:Kp d W W'):Fr d m ind' bs' p lv cs b W0 W' :=
 ⟨hw,h.lies.later hk.below,hk.oth _ _ h.box (by have:=h.bd;simp;omega) (fun _ _ e=>absurd (Obj.cells.inj e).2.1 (by decide)),h.bd,h.kp.trans hk⟩
theorem Fr.later {d m ind:Nat} {bs:By} {p:Pt} {lv:Value} {cs:Array Value} {b:Nat} {W0 W W':World} (h:Fr d m ind bs p lv cs b W0 W) (hb:Below W.heap.size W W'):Fr d m ind bs p lv cs b W0 W' :=
 h.step (h.wr.later hb) ((Kp.refl d W).later hb (Nat.le_of_lt h.wr.bx.lt))
theorem cs_form {d:Nat} {k t:By} {f e:Int} {ks:List Pt} {lv:Value} {cs:Array Value} {W:World} (h:Value.agg cs=arg (.mk k t f e ks) lv) (hv:Lies d (.mk k t f e ks) lv W) :
  ∃ kb tb n a c,cs=#[.string kb,.string tb,.int .i64 f,.int .i64 e,.slice a n c]∧bstr k=kb∧bstr t=tb∧ks.length=n∧lv=.slice a n c:=by
 obtain ⟨a,c,rfl⟩:=J.kids_form hv
 refine ⟨_,_,_,a,c,?_,rfl,rfl,rfl,rfl⟩
 simpa [arg,five] using h
theorem set5 {W:World} {b:Nat} {t:TypeId} {u0 u1 u2 u3 u4:Value} (v0 v1 v2 v3 v4:Value) (h:W.heap[b]?=some (.cells #[u0,u1,u2,u3,u4] t (0,0))) :
  ∃ W',((((W.setCell ⟨b,0,none⟩ v0).setCell ⟨b,1,none⟩ v1).setCell ⟨b,2,none⟩ v2).setCell ⟨b,3,none⟩ v3).setCell ⟨b,4,none⟩ v4=W'∧W'.heap[b]?=some (.cells #[v0,v1,v2,v3,v4] t (0,0))∧(∀ k,k≠b→W'.heap[k]?=W.heap[k]?)∧∀ B,B≤b→Below B W W':=by
 have s0:(W.setCell ⟨b,0,none⟩ v0).heap[b]?=some (.cells #[v0,u1,u2,u3,u4] t (0,0)):=Go.Joins.block_setCell h v0
 have s1:((W.setCell ⟨b,0,none⟩ v0).setCell ⟨b,1,none⟩ v1).heap[b]?=some (.cells #[v0,v1,u2,u3,u4] t (0,0)):=Go.Joins.block_setCell s0 v1
 have s2:(((W.setCell ⟨b,0,none⟩ v0).setCell ⟨b,1,none⟩ v1).setCell ⟨b,2,none⟩ v2).heap[b]?=some (.cells #[v0,v1,v2,u3,u4] t (0,0)):=Go.Joins.block_setCell s1 v2
 have s3:((((W.setCell ⟨b,0,none⟩ v0).setCell ⟨b,1,none⟩ v1).setCell ⟨b,2,none⟩ v2).setCell ⟨b,3,none⟩ v3).heap[b]?=some (.cells #[v0,v1,v2,v3,u4] t (0,0)):=Go.Joins.block_setCell s2 v3
 have s4:(((((W.setCell ⟨b,0,none⟩ v0).setCell ⟨b,1,none⟩ v1).setCell ⟨b,2,none⟩ v2).setCell ⟨b,3,none⟩ v3).setCell ⟨b,4,none⟩ v4).heap[b]?=some (.cells #[v0,v1,v2,v3,v4] t (0,0)):=Go.Joins.block_setCell s3 v4
 have oth:∀ k,k≠b→(((((W.setCell ⟨b,0,none⟩ v0).setCell ⟨b,1,none⟩ v1).setCell ⟨b,2,none⟩ v2).setCell ⟨b,3,none⟩ v3).setCell ⟨b,4,none⟩ v4).heap[k]?=W.heap[k]?:=fun k hk =>
  (Below.heap_setCell _ _ _ _ hk).trans ((Below.heap_setCell _ _ _ _ hk).trans ((Below.heap_setCell _ _ _ _ hk).trans ((Below.heap_setCell _ _ _ _ hk).trans (Below.heap_setCell _ _ _ _ hk))))
 have b1:∀ B,B≤b→∀ (X:World) (j:Nat) (v:Value),Below B X (X.setCell ⟨b,j,none⟩ v):=fun B hB X j v=>⟨rfl,rfl,rfl,by simp,fun k hk=>Below.heap_setCell _ _ _ _ (by show k≠b;omega)⟩
 exact ⟨_,rfl,s4,oth,fun B hB=>((((b1 B hB _ _ _).trans (b1 B hB _ _ _)).trans (b1 B hB _ _ _)).trans (b1 B hB _ _ _)).trans (b1 B hB _ _ _)⟩
theorem kidAt_wt {ks:List Pt} (i:Nat):wtP (kidAt ks i)≤wtL ks+1:=by
 rcases kidAt_cases ks i with h|h
 ·have:=wtL_mem h;omega
 ·rw [h];show wtP (.mk [] [] 0 0 [])≤_;simp [wtP,wtL]
def KidPost (Q:Pt) (R:Nat→Prop) (w:World) (e:Ending) (w':World):Prop:=∃ lv',e=.returned (arg Q lv')∧KidsIn w' R Q lv'∧Below w.heap.size w w'
set_option maxHeartbeats 4000000 in
set_option maxRecDepth 20000 in
theorem kidOf_any (p:Pt) (lv:Value) (R:Nat→Prop) (w:World) (i:Nat) (hv:KidsIn w R p lv) (hw:wtP p≤1099511627776) (hi:i≤1000) :
  Calls Tryz.prog 104 #[arg p lv,.int .i64 i] w (KidPost (kidAt (ksP p) i) R w):=by
 obtain ⟨k,t,f,e,ks⟩:=p
 obtain ⟨a,c,rfl⟩:=J.kids_form hv
 have hrow:=(kids_row hv).2.2
 rw [wtP] at hw
 have hlb:ks.length≤1099511627776:=Nat.le_trans (wtL_length ks) (by omega)
 have HR:=hid hrow
 show Calls _ _ _ _ (KidPost (kidAt ks i) R w)
 simp only [arg,five]
 obtain ⟨n,hn⟩:∃ n,ks.length=n:=⟨_,rfl⟩
 have HN:=hid hn
 rw [hn]
 rw [hn] at hlb
 obtain ⟨kb,hkb⟩:∃ x,bstr k=x:=⟨_,rfl⟩
 obtain ⟨tb,htb⟩:∃ x,bstr t=x:=⟨_,rfl⟩
 rw [hkb,htb]
 obtain ⟨Q,hQ⟩:∃ Q:Pt,kidAt ks i=Q:=⟨_,rfl⟩
 have HQ:=hid hQ
 rw [hQ]
 clear hv hrow hw hn hkb htb hQ
 by_cases hlt:i<n
 ·have hll:i<ks.length:=by rw [HN.out];exact hlt
  obtain ⟨g,off,xs,rfl,hg,hc,hp⟩:=HR.out.resolve_left (fun h=>by rw [h] at hll;exact Nat.not_lt_zero _ hll)
  obtain ⟨k',t',f',e',ks',a',c',hK⟩:=kid_at hp hc i hll
  have hQe:Q=.mk k' t' f' e' ks':=by rw [← HQ.out];unfold kidAt;rw [List.getElem?_eq_getElem hll];exact hK.eq
  have HKin:=hid hK.kids
  subst hQe
  go_enter Tryz.func104,Tryz.ntmps104
  go_upto_region 1 with fail
  obtain ⟨w1,hw1,hq1,hb1,hz1⟩:=new_block w (.cells #[.string kb,.string tb,.int .i64 f,.int .i64 e,.slice (some ⟨g,off,none⟩) n c] 25)
  rw [hw1]
  obtain ⟨w2,hw2,hq2,hb2,hz2⟩:=new_block w1 (.cells #[.string ⟨#[]⟩,.string ⟨#[]⟩,.int .i64 0,.int .i64 0,.slice none 0 0] 25)
  rw [hw2]
  have hs1:w1.heap.size=w.heap.size+1:=by rw [← hw1];simp
  have hq12:=(hb2.block _ hz1).trans hq1
  have hbw:Below w.heap.size w w2:=hb1.trans (hb2.mono hb1.size)
  have hK2:=hK.below hbw
  have j0:=hK2.k0
  have j1:=hK2.k1
  have j2:=hK2.k2
  have j3:=hK2.k3
  have j4:=hK2.k4
  obtain ⟨⟨p0,p1,p2,p3,p4⟩,pf⟩:=J.cells_five hq12
  obtain ⟨⟨q0,q1,q2,q3,q4⟩,qf⟩:=J.cells_five hq2
  obtain ⟨y0,hy0⟩:∃ x,bstr k'=x:=⟨_,rfl⟩
  obtain ⟨y1,hy1⟩:∃ x,bstr t'=x:=⟨_,rfl⟩
  obtain ⟨z0,hz0⟩:∃ x,ks'.length=x:=⟨_,rfl⟩
  have HY0:=hid hy0
  have HY1:=hid hy1
  have HZ0:=hid hz0
  rw [hy0] at j0
  rw [hy1] at j1
  rw [hz0] at j4
  have HQ2:=hid hq2
  have HBW:=hid hbw
  rw [hs1] at q0 q1 q2 q3 q4 qf HQ2
  have hi0:(0:Int)≤(i:Int):=by omega
  have hi1:(i:Int)<(n:Int):=by omega
  clear hw1 hq1 hb1 hw2 hq2 hb2 hq12 hbw hc hp hK hK2 hy0 hy1 hz0 hz1 hz2
  go_upto_region 3 with fail
  obtain ⟨Wf,hWf,f0,oth,hbf⟩:=set5 (.string y0) (.string y1) (.int .i64 f') (.int .i64 e') (.slice a' z0 c') HQ2.out
  rw [hWf]
  obtain ⟨⟨u0,u1,u2,u3,u4⟩,_⟩:=J.cells_five f0
  have hbe:=HBW.out.trans (hbf w.heap.size (by omega))
  have hkf:KidsIn Wf R (.mk k' t' f' e' ks') (.slice a' ks'.length c'):=kids_below HKin.out hbe
  have hfin:=hid (show KidPost (.mk k' t' f' e' ks') R w (.returned (.agg #[.string y0,.string y1,.int .i64 f',.int .i64 e',.slice a' z0 c'])) Wf from ⟨.slice a' ks'.length c',by rw [arg,five,HY0.out,HY1.out,HZ0.out],hkf,hbe⟩)
  clear hWf f0 oth hbf hbe hkf p0 p1 p2 p3 p4 pf q0 q1 q2 q3 q4 qf
  simp [bodyPost,results,Tryz.results104,go_sem,u0,u1,u2,u3,u4]
  exact hfin.out
 ·have hQe:Q=zeroP:=by rw [← HQ.out];unfold kidAt;rw [List.getElem?_eq_none (by rw [HN.out];omega)];rfl
  subst hQe
  go_enter Tryz.func104,Tryz.ntmps104
  go_upto_region 1 with fail
  obtain ⟨w1,hw1,hq1,hb1,hz1⟩:=new_block w (.cells #[.string kb,.string tb,.int .i64 f,.int .i64 e,.slice a n c] 25)
  rw [hw1]
  obtain ⟨w2,hw2,hq2,hb2,hz2⟩:=new_block w1 (.cells #[.string ⟨#[]⟩,.string ⟨#[]⟩,.int .i64 0,.int .i64 0,.slice none 0 0] 25)
  rw [hw2]
  have hs1:w1.heap.size=w.heap.size+1:=by rw [← hw1];simp
  have hq12:=(hb2.block _ hz1).trans hq1
  have hbw:Below w.heap.size w w2:=hb1.trans (hb2.mono hb1.size)
  obtain ⟨⟨p0,p1,p2,p3,p4⟩,pf⟩:=J.cells_five hq12
  obtain ⟨⟨q0,q1,q2,q3,q4⟩,qf⟩:=J.cells_five hq2
  have HQ2:=hid hq2
  have HBW:=hid hbw
  rw [hs1] at q0 q1 q2 q3 q4 qf HQ2
  have hi1:¬ (i:Int)<(n:Int):=by omega
  clear hw1 hq1 hb1 hw2 hq2 hb2 hq12 hbw hz1 hz2
  go_wp2_with fail
  obtain ⟨Wf,hWf,f0,oth,hbf⟩:=set5 (.string ⟨#[]⟩) (.string ⟨#[]⟩) (.int .i64 0) (.int .i64 0) (.slice none 0 0) HQ2.out
  rw [hWf]
  obtain ⟨⟨u0,u1,u2,u3,u4⟩,_⟩:=J.cells_five f0
  have hbe:=HBW.out.trans (hbf w.heap.size (by omega))
  have hfin:=hid (show KidPost zeroP R w (.returned (.agg #[.string ⟨#[]⟩,.string ⟨#[]⟩,.int .i64 0,.int .i64 0,.slice none 0 0])) Wf from ⟨.slice none 0 0,rfl,⟨none,0,rfl,Nat.le_refl _,.inl rfl⟩,hbe⟩)
  clear hWf f0 oth hbf hbe p0 p1 p2 p3 p4 pf q0 q1 q2 q3 q4 qf
  simp [bodyPost,results,Tryz.results104,go_sem,u0,u1,u2,u3,u4]
  exact hfin.out
end Go.Proofs.YtmclaaonlhnbmaaGreatDoor.H
