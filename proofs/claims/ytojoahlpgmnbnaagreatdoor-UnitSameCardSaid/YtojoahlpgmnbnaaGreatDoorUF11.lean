/- What the claim needs of the texts KDecl, JLaid, QPieces, UPlain, JClone, JSame. -/
import Derived.Test.YtojoahlpgmnbnaaGreatDoorUFOp
import Derived.Test.YtojoahlpgmnbnaaGreatDoorUF10
import Derived.Test.YtojoahlpgmnbnaaGreatDoorRows
import Derived.Test.YtojoahlpgmnbnaaGreatDoorUF9
import Derived.OpenShut
import Derived.Lib.LaidTab
import Derived.Lib.LaidU8T
import Derived.PinnedBridge
import Derived.Test.YtojoahlpgmnbnaaGreatDoorUF8
import Derived.Lib.SliceRun
namespace Go.Proofs.YtojoahlpgmnbnaaGreatDoor.K
open Go.RowKit
open Go.Lib hiding intOf
open U S T J
def MTab (w:World):Prop:=2<w.heap.size∧(∃ o:Obj,w.heap[2]?=some o∧o.isCells=true)∧CellsAt w 2 0 tabS
theorem MTab.later {w w':World} (h:MTab w) (hb:Below w.heap.size w w'):MTab w':=by
 obtain ⟨h1,⟨o,h2,h3⟩,h4⟩:=h
 have hq:=hb.block _ h1
 refine ⟨Nat.lt_of_lt_of_le h1 hb.size,⟨o,hq.trans h2,h3⟩,fun j u hj=>?_⟩
 have:=h4 j u hj
 exact (hb.cell (p:=⟨_,0+j,none⟩) h1).trans this
theorem stay_below {O O':Nat→Prop} {W W':World} {B:Nat} (h:Stay O O' W W') (hO:∀ k,O k→B≤k) (hB:B≤W.heap.size):Below B W W' :=
 ⟨h.os,h.tape,h.output,h.size,fun k hk=>h.block k (by omega) (fun ho=>by have:=hO k ho;omega)⟩
theorem read_q {d:Nat} {s:By} {right:Bool} {lv:Value} {O:Nat→Prop} {B:Nat} {W:World} (hM:Mem d (scanB right s) s.length lv ⟨0,[],[root]⟩ O W) (hl:(scanB right s).length≤1660) (hwt:∀ p,fate (scanB right s)=.part p→wtP p≤100000000) (hG:MTab W) (hO:∀ k,O k→B≤k) (hB:B≤W.heap.size) (hg:2<B) :
  Calls Tryz.prog 76 #[ptr d] W fun e W'=>∃ q lv at' er,e=.returned (.tuple #[arg q lv,.int .i64 at',.int .i64 er])∧KidsIn W' (fun _=>True) q lv∧wtP q≤100000000∧NnL (kidsP q)∧Below B W W' ∧
   declP (scanB right s) s.length=if 40<deep q then (zeroP,0,22) else (q,at',er):=by
 have hG':PTab O W:=⟨⟨hG.1,fun h=>by have:=hO _ h;omega,hG.2.1⟩,hG.2.2⟩
 refine (read_any hM (scan_fine right s) hl hG').mono ?_
 intro e W' h
 unfold declP
 cases hf:fate (scanB right s) with
 | bad j =>
  rw [hf] at h
  obtain ⟨O',rfl,hS⟩:=h
  refine ⟨zeroP,.slice none 0 0,(tok (scanB right s) s.length j).f,101,rfl,⟨none,0,rfl,Nat.le_refl _,.inl rfl⟩,by decide,NnL.nil,stay_below hS hO hB,?_⟩
  rw [if_neg (by decide)]
 | part p =>
  rw [hf] at h
  obtain ⟨plv,O',rfl,hk,hS⟩:=h
  exact ⟨p,plv,0,0,rfl,KidsIn.later (fun _ _ _=>rfl) (fun _ _=>trivial) _ _ hk,hwt p hf,(by have h:=fate_nn hf;cases p;unfold Nn at h;exact h.2),stay_below hS hO hB,rfl⟩
theorem set_five {W:World} {b:Nat} {t:TypeId} {u0 u1 u2 u3 u4:Value} (v0 v1 v2 v3 v4:Value) (h:W.heap[b]?=some (.cells #[u0,u1,u2,u3,u4] t (0,0))) :
  ∃ W',((((W.setCell ⟨b,0,none⟩ v0).setCell ⟨b,1,none⟩ v1).setCell ⟨b,2,none⟩ v2).setCell ⟨b,3,none⟩ v3).setCell ⟨b,4,none⟩ v4=W'∧W'.heap[b]?=some (.cells #[v0,v1,v2,v3,v4] t (0,0))∧(∀ k,k≠b→W'.heap[k]?=W.heap[k]?)∧∀ B,B≤b→Below B W W':=by
 have s0:(W.setCell ⟨b,0,none⟩ v0).heap[b]?=some (.cells #[v0,u1,u2,u3,u4] t (0,0)):=Go.Joins.block_setCell h v0
 have s1:((W.setCell ⟨b,0,none⟩ v0).setCell ⟨b,1,none⟩ v1).heap[b]?=some (.cells #[v0,v1,u2,u3,u4] t (0,0)):=Go.Joins.block_setCell s0 v1
 have s2:(((W.setCell ⟨b,0,none⟩ v0).setCell ⟨b,1,none⟩ v1).setCell ⟨b,2,none⟩ v2).heap[b]?=some (.cells #[v0,v1,v2,u3,u4] t (0,0)):=Go.Joins.block_setCell s1 v2
 have s3:((((W.setCell ⟨b,0,none⟩ v0).setCell ⟨b,1,none⟩ v1).setCell ⟨b,2,none⟩ v2).setCell ⟨b,3,none⟩ v3).heap[b]?=some (.cells #[v0,v1,v2,v3,u4] t (0,0)):=Go.Joins.block_setCell s2 v3
 have s4:(((((W.setCell ⟨b,0,none⟩ v0).setCell ⟨b,1,none⟩ v1).setCell ⟨b,2,none⟩ v2).setCell ⟨b,3,none⟩ v3).setCell ⟨b,4,none⟩ v4).heap[b]?=some (.cells #[v0,v1,v2,v3,v4] t (0,0)):=Go.Joins.block_setCell s3 v4
 have oth:∀ k,k≠b→(((((W.setCell ⟨b,0,none⟩ v0).setCell ⟨b,1,none⟩ v1).setCell ⟨b,2,none⟩ v2).setCell ⟨b,3,none⟩ v3).setCell ⟨b,4,none⟩ v4).heap[k]?=W.heap[k]?:=fun k hk =>
  (Below.heap_setCell _ _ _ _ hk).trans ((Below.heap_setCell _ _ _ _ hk).trans ((Below.heap_setCell _ _ _ _ hk).trans ((Below.heap_setCell _ _ _ _ hk).trans (Below.heap_setCell _ _ _ _ hk))))
 have b1:∀ B,B≤b→∀ (X:World) (j:Nat) (v:Value),Below B X (X.setCell ⟨b,j,none⟩ v):=fun B hB X j v=>⟨rfl,rfl,rfl,by simp,fun k hk=>Below.heap_setCell _ _ _ _ (by show k≠b;omega)⟩
 exact ⟨_,rfl,s4,oth,fun B hB=>((((b1 B hB _ _ _).trans (b1 B hB _ _ _)).trans (b1 B hB _ _ _)).trans (b1 B hB _ _ _)).trans (b1 B hB _ _ _)⟩
theorem kids_leaveL {W:World} {R X:Nat→Prop} (hX:∀ g off k,X g→k≠[]→W.cell? ⟨g,off,none⟩≠some (.string (bstr k))) {k t:By} {f e:Int} {ks:List Pt} {lv:Value} (hn:NnL ks) (h:KidsIn W R (.mk k t f e ks) lv):KidsIn W (fun g=>R g∧¬ X g) (.mk k t f e ks) lv :=
 kids_leave hX (.mk [0] t f e ks) lv (by unfold Nn;exact ⟨by decide,hn⟩) h
def DeclPost (s:ByteArray) (w:World) (e:Ending) (w':World):Prop:=∃ p at' er lv,declP (scanB (okB s) s.toList) s.size=(p,at',er)∧e=.returned (.tuple #[arg p lv,.int .i64 at',.int .i64 er])∧KidsIn w' (fun _=>True) p lv∧Below w.heap.size w w'∧wtP p≤100000000
def DeclOwn (s:ByteArray) (w:World) (e:Ending) (w':World):Prop:=∃ p at' er lv,declP (scanB (okB s) s.toList) s.size=(p,at',er)∧e=.returned (.tuple #[arg p lv,.int .i64 at',.int .i64 er])∧KidsIn w' (fun g=>w.heap.size≤g) p lv∧Below w.heap.size w w'∧wtP p≤100000000
set_option maxHeartbeats 4000000 in
set_option maxRecDepth 20000 in
theorem decl_big (s:ByteArray) (w:World) (hs:s.size≤1000000000000) (hlw:(scanB (okB s) s.toList).length≤1660) (hwf:∀ p,fate (scanB (okB s) s.toList)=.part p→wtP p≤100000000) (hT:Tabs w) (hG:MTab w) :
  Calls Tryz.prog 52 #[.string s] w (DeclPost s w):=by
 have hgl:=hG.1
 have HT:=hid hT
 have HG:=hid hG
 have HS:=hid hs
 have HLW:=hid hlw
 have HWF:=hid hwf
 have htl:=tl_len s
 clear hT hG hlw hwf
 go_enter Tryz.func52,Tryz.ntmps52
 go_upto_region 1 with fail
 obtain ⟨w1,hw1,hq1,hb1,hz1⟩:=new_block w (.cells #[.string ⟨#[]⟩,.string ⟨#[]⟩,.int .i64 0,.int .i64 0,.slice none 0 0] 49)
 rw [hw1]
 have HB1:=hid hb1
 have HQ1:=hid hq1
 have HZ1:=hid hz1
 have cN:=new_any s w1 HS.out (Nat.le_trans HLW.out (by decide)) (HT.out.later hb1)
 clear hw1 hq1 hb1 hz1
 go_wp2_with fail
 refine cN.mono ?_
 rintro e w2 ⟨d,rv,O,rfl,hM,hb2,hO⟩
 have hz2:=HB1.out.size
 have HB2:=hid (HB1.out.trans (hb2.mono hz2))
 have HQ2:=hid ((hb2.block _ HZ1.out).trans HQ1.out)
 have cR:=read_q (B:=w1.heap.size) (by rw [htl];exact hM) HLW.out HWF.out (HG.out.later HB2.out) hO hb2.size (by omega)
 rw [htl] at cR
 have HZ2:=hid (Nat.lt_of_lt_of_le HZ1.out hb2.size)
 clear cN hM hO hb2
 go_wp2_with fail
 refine cR.mono ?_
 rintro e w3 ⟨q,lv,at',er,rfl,hk,hwt,hnn,hb3,hdp⟩
 have HB3:=hid (HB2.out.trans (hb3.mono hz2))
 have HQ3:=hid ((hb3.block _ HZ1.out).trans HQ2.out)
 have HZ3:=hid (Nat.lt_of_lt_of_le HZ2.out hb3.size)
 have HDP:=hid hdp
 obtain ⟨k,t,f,e,ks⟩:=q
 obtain ⟨a,c,rfl⟩:=J.kids_form hk
 have HK:=hid hk
 have HNN:=hid hnn
 have HWT:=hid hwt
 have cD:=fun X (hX:Below w3.heap.size w3 X)=>deep_any (.mk k t f e ks) (kids_below HK.out hX) (by have:=HWT.out;omega)
 obtain ⟨dp,hdpn⟩:∃ n,deep (.mk k t f e ks)=n:=⟨_,rfl⟩
 rw [hdpn] at cD
 have HDN:=hid hdpn
 simp only [arg,five] at cD ⊢
 obtain ⟨kb,hkb⟩:∃ x,bstr k=x:=⟨_,rfl⟩
 obtain ⟨tb,htb⟩:∃ x,bstr t=x:=⟨_,rfl⟩
 have HKB:=hid hkb
 have HTB:=hid htb
 rw [hkb,htb] at cD ⊢
 obtain ⟨n,hn⟩:∃ n,ks.length=n:=⟨_,rfl⟩
 have HN:=hid hn
 rw [hn] at cD ⊢
 clear cR hk hwt hnn hb3 hdp hdpn hkb htb hn htl hgl
 go_upto_region 2 with fail
 obtain ⟨w4,hw4,hq4,hb4,hz4⟩:=new_block w3 (.cells #[.string kb,.string tb,.int .i64 f,.int .i64 e,.slice a n c] 49)
 rw [hw4]
 have cD4:=cD w4 hb4
 have HQ4:=hid hq4
 have HB4:=hid hb4
 have HZ4:=hid hz4
 obtain ⟨⟨q0,q1,q2,q3,q4⟩,qf⟩:=J.cells_five hq4
 clear hw4 hq4 hb4 hz4 cD
 go_wp2_with fail
 refine cD4.mono ?_
 rintro e' w5 ⟨rfl,hb5⟩
 have hq5:=(hb5.block _ HZ4.out).trans HQ4.out
 have hp5:=(hb5.block _ (by have:=HZ3.out;have:=HB4.out.size;omega)).trans ((HB4.out.block _ HZ3.out).trans HQ3.out)
 have HB5:=hid (HB3.out.trans ((HB4.out.trans (hb5.mono HB4.out.size)).mono HB3.out.size))
 have hne:w3.heap.size≠w.heap.size:=by have:=HZ3.out;omega
 obtain ⟨⟨q0,q1,q2,q3,q4⟩,qf⟩:=J.cells_five hq5
 obtain ⟨⟨p0,p1,p2,p3,p4⟩,pf⟩:=J.cells_five hp5
 have HK5:=hid (kids_below (kids_below HK.out HB4.out) hb5)
 have HP5:=hid hp5
 obtain ⟨b,hb⟩:∃ b,w.heap.size=b:=⟨_,rfl⟩
 have HWB:=hid hb
 rw [hb] at p0 p1 p2 p3 p4 pf hne HP5 ⊢
 clear cD4 hb5 hq5 hp5 hb
 by_cases hd:40<dp
 ·go_wp2_with fail
  obtain ⟨Wf,hWf,f0,oth,hbf⟩:=set_five (.string ⟨#[]⟩) (.string ⟨#[]⟩) (.int .i64 0) (.int .i64 0) (.slice none 0 0) HP5.out
  rw [hWf]
  obtain ⟨⟨y0,y1,y2,y3,y4⟩,_⟩:=J.cells_five f0
  have hbw:Below w.heap.size w Wf:=HB5.out.trans (hbf _ (by have:=HWB.out;omega))
  have hfin:DeclPost s w (.returned (.tuple #[.agg #[.string ⟨#[]⟩,.string ⟨#[]⟩,.int .i64 0,.int .i64 0,.slice none 0 0],.int .i64 0,.int .i64 22])) Wf :=
   ⟨zeroP,0,22,.slice none 0 0,by rw [HDP.out,HDN.out,if_pos hd],rfl,⟨none,0,rfl,Nat.le_refl _,.inl rfl⟩,hbw,by decide⟩
  clear hWf f0 oth hbf hbw q0 q1 q2 q3 q4 qf p0 p1 p2 p3 p4 pf
  simp [bodyPost,results,Tryz.results52,go_sem,y0,y1,y2,y3,y4]
  exact hfin
 ·go_wp2_with fail
  obtain ⟨Wf,hWf,f0,oth,hbf⟩:=set_five (.string kb) (.string tb) (.int .i64 f) (.int .i64 e) (.slice a n c) HP5.out
  rw [hWf]
  obtain ⟨⟨y0,y1,y2,y3,y4⟩,_⟩:=J.cells_five f0
  have hbw:Below w.heap.size w Wf:=HB5.out.trans (hbf _ (by have:=HWB.out;omega))
  have hkf:KidsIn Wf (fun _=>True) (.mk k t f e ks) (.slice a ks.length c) :=
   KidsIn.later (fun g hg _=>oth g hg.2) (fun _ _=>trivial) _ _ (kids_leaveL (X:=fun g=>g=b) (fun g off k hg hk=>by subst hg;exact blank_block HP5.out off k hk) HNN.out HK5.out)
  have hfin:DeclPost s w (.returned (.tuple #[.agg #[.string kb,.string tb,.int .i64 f,.int .i64 e,.slice a n c],.int .i64 at',.int .i64 er])) Wf :=
   ⟨.mk k t f e ks,at',er,.slice a ks.length c,by rw [HDP.out,HDN.out,if_neg hd],by rw [arg,five,HKB.out,HTB.out,HN.out],hkf,hbw,HWT.out⟩
  clear hWf f0 oth hbf hbw hkf q0 q1 q2 q3 q4 qf p0 p1 p2 p3 p4 pf
  simp [bodyPost,results,Tryz.results52,go_sem,y0,y1,y2,y3,y4]
  exact hfin
theorem decl_any (s:ByteArray) (w:World) (hs:s.size≤600) (hT:Tabs w) (hG:MTab w) :
  Calls Tryz.prog 52 #[.string s] w (DeclPost s w) :=
 decl_big s w (by omega) (by have h:=scan_len' (okB s) s.toList;have e:=tl_len s;omega) (fun p h=>wt_fate (by have e:=tl_len s;omega) h) hT hG
end Go.Proofs.YtojoahlpgmnbnaaGreatDoor.K
namespace Go.Proofs.YtojoahlpgmnbnaaGreatDoor.J
open Go.Proofs Go.Shelf Go.RowKit
open Go.Lib hiding intOf
open U S T
open Go.Proofs.YtojoahlpgmnbnaaGreatDoor.K (MTab tabS)
theorem tabs_of {W:World} {l:List (String × DataW Unit)} (hL:laidMet Tryz.prog l W) (h1:("unicode/utf8.first",Rows.laid_unicode_utf8_first)∈l) (h2:("unicode/utf8.acceptRanges",Rows.laid_unicode_utf8_acceptRanges)∈l):Tabs W :=
 utf8Tabs_of_readsT (U8Types.of196 lays) ⟨by kernel_rfl,by kernel_rfl,by kernel_rfl,by kernel_rfl,by kernel_rfl,by kernel_rfl,by kernel_rfl⟩
  (Pinned.utf8First_eq ▸ Lib.laidMet.reads hL h1) (Lib.laidMet.reads hL h2)
theorem cells_mark:Tryz.prog.cellsOf 152=2:=by kernel_rfl
theorem cells_marks:Tryz.prog.cellsOf 153=26:=by kernel_rfl
theorem cells_strJ:Tryz.prog.cellsOf 9=1:=by kernel_rfl
theorem cells_intJ:Tryz.prog.cellsOf 3=1:=by kernel_rfl
theorem two_listJ {α:Type} {l:List α} (h:l.length=2):∃ a b,l=[a,b]:=by
 match l,h with
 | [a,b],_=>exact ⟨a,b,rfl⟩
theorem str_backJ {s:ByteArray} {l:List UInt8} (h:s.data.toList=l):s=⟨l.toArray⟩:=by
 subst h
 cases s
 simp
theorem mark_of {H:Type} {enc:TypeId × Value→H} {W:World} {held:Bool} {fuel:Nat} {cs:List Value} {s:List UInt8} {k:Int} {x:DataW H × List MemPlace}
  (h:DataW.trod enc Tryz.prog W 0 (fun _=>true) held fuel 152 cs=some x) (hx:x.1=.agg [.lit (.string s),.lit (.int .i64 k)]):cs=[.string ⟨s.toArray⟩,.int .i64 k]:=by
 obtain ⟨xs,n,rfl,rfl,hcl,hxl,hfd⟩:=DataW.trod_struct Tryz.underlying152 h
 rw [cells_mark] at hcl
 obtain ⟨c0,c1,rfl⟩:=two_listJ hcl
 obtain ⟨y0,y1,rfl⟩:=two_listJ (hxl.trans rfl)
 have f0:=hfd 0 _ rfl
 have f1:=hfd 1 _ rfl
 have g0:DataW.trod enc Tryz.prog W 0 (fun _=>true) held n 9 (([c0,c1].drop 0).take (Tryz.prog.cellsOf 9))=some y0:=f0
 rw [cells_strJ] at g0
 replace g0:DataW.trod enc Tryz.prog W 0 (fun _=>true) held n 9 [c0]=some y0:=g0
 have g1:DataW.trod enc Tryz.prog W 0 (fun _=>true) held n 3 (([c0,c1].drop 1).take (Tryz.prog.cellsOf 3))=some y1:=f1
 rw [cells_intJ] at g1
 replace g1:DataW.trod enc Tryz.prog W 0 (fun _=>true) held n 3 [c1]=some y1:=g1
 obtain ⟨ts,h0,e0,_⟩:=DataW.trod_string Tryz.underlying9 g0
 obtain ⟨z,h1,e1,_⟩:=DataW.trod_int Tryz.underlying3 g1
 cases h0;cases h1
 subst e0;subst e1
 simp only [List.map_cons,List.map_nil,DataW.agg.injEq,List.cons.injEq,DataW.lit.injEq,Lit.int.injEq,Lit.string.injEq,true_and,and_true] at hx
 obtain ⟨hs,rfl⟩:=hx
 rw [str_backJ hs]
theorem rows_flatJ {α:Type} {k:Nat}:∀ (rows:List (List α)) (cs:List α),cs.length=rows.length*k→(∀ i r,rows[i]?=some r→(cs.drop (i*k)).take k=r)→cs=rows.flatten
 | [],cs,hl,_=>by
  simp at hl
  simpa using hl
 | r :: rows,cs,hl,h=>by
  have h0:=h 0 r rfl
  simp only [Nat.zero_mul,List.drop_zero] at h0
  have ih:=rows_flatJ rows (cs.drop k) (by rw [List.length_drop,hl,List.length_cons,Nat.add_mul,Nat.one_mul,Nat.add_sub_cancel]) (fun i r' hr=>by
   have:=h (i+1) r' (by simpa using hr)
   rw [List.drop_drop,show k+i*k=(i+1)*k by rw [Nat.add_mul,Nat.one_mul,Nat.add_comm]]
   exact this)
  rw [List.flatten_cons,← h0,← ih,List.take_append_drop]
theorem list13 {α:Type} {l:List α} (h:l.length=13):∃ x0 x1 x2 x3 x4 x5 x6 x7 x8 x9 x10 x11 x12,l=[x0,x1,x2,x3,x4,x5,x6,x7,x8,x9,x10,x11,x12]:=by
 match l,h with
 | [x0,x1,x2,x3,x4,x5,x6,x7,x8,x9,x10,x11,x12],_=>exact ⟨x0,x1,x2,x3,x4,x5,x6,x7,x8,x9,x10,x11,x12,rfl⟩
def rowsS:List (List Value):=(List.range 13).map fun i=>(tabS.drop (i*2)).take 2
theorem table_of {H:Type} {enc:TypeId × Value→H} {W:World} {held:Bool} {fuel:Nat} {cs:List Value} {x:DataW H × List MemPlace}
  (h:DataW.trod enc Tryz.prog W 0 (fun _=>true) held fuel 153 cs=some x) (hx:x.1=Rows.laid_bolthole_parse_marks):cs=tabS:=by
 obtain ⟨xs,m,rfl,rfl,hcl,hxl,hel⟩:=DataW.trod_array Tryz.underlying153 h
 rw [cells_marks] at hcl
 rw [cells_mark] at hel
 obtain ⟨x0,x1,x2,x3,x4,x5,x6,x7,x8,x9,x10,x11,x12,rfl⟩:=list13 hxl
 simp only [Rows.laid_bolthole_parse_marks,List.map_cons,List.map_nil,DataW.agg.injEq,List.cons.injEq,and_true] at hx
 obtain ⟨d0,d1,d2,d3,d4,d5,d6,d7,d8,d9,d10,d11,d12⟩:=hx
 have r0:=mark_of (hel 0 (by omega)) d0
 have r1:=mark_of (hel 1 (by omega)) d1
 have r2:=mark_of (hel 2 (by omega)) d2
 have r3:=mark_of (hel 3 (by omega)) d3
 have r4:=mark_of (hel 4 (by omega)) d4
 have r5:=mark_of (hel 5 (by omega)) d5
 have r6:=mark_of (hel 6 (by omega)) d6
 have r7:=mark_of (hel 7 (by omega)) d7
 have r8:=mark_of (hel 8 (by omega)) d8
 have r9:=mark_of (hel 9 (by omega)) d9
 have r10:=mark_of (hel 10 (by omega)) d10
 have r11:=mark_of (hel 11 (by omega)) d11
 have r12:=mark_of (hel 12 (by omega)) d12
 refine (rows_flatJ rowsS cs (k:=2) hcl (fun i r hr=>?_)).trans (by kernel_rfl)
 have hi:i<13:=(List.getElem?_eq_some_iff.1 hr).1
 by_cases e0:i=0
 ·subst e0
  exact r0.trans (Option.some.inj hr)
 by_cases e1:i=1
 ·subst e1
  exact r1.trans (Option.some.inj hr)
 by_cases e2:i=2
 ·subst e2
  exact r2.trans (Option.some.inj hr)
 by_cases e3:i=3
 ·subst e3
  exact r3.trans (Option.some.inj hr)
 by_cases e4:i=4
 ·subst e4
  exact r4.trans (Option.some.inj hr)
 by_cases e5:i=5
 ·subst e5
  exact r5.trans (Option.some.inj hr)
 by_cases e6:i=6
 ·subst e6
  exact r6.trans (Option.some.inj hr)
 by_cases e7:i=7
 ·subst e7
  exact r7.trans (Option.some.inj hr)
 by_cases e8:i=8
 ·subst e8
  exact r8.trans (Option.some.inj hr)
 by_cases e9:i=9
 ·subst e9
  exact r9.trans (Option.some.inj hr)
 by_cases e10:i=10
 ·subst e10
  exact r10.trans (Option.some.inj hr)
 by_cases e11:i=11
 ·subst e11
  exact r11.trans (Option.some.inj hr)
 by_cases e12:i=12
 ·subst e12
  exact r12.trans (Option.some.inj hr)
 omega
theorem mtab_of {W:World} {l:List (String × DataW Unit)} (hL:laidMet Tryz.prog l W) (hm:("bolthole/parse.marks",Rows.laid_bolthole_parse_marks)∈l):MTab W:=by
 obtain ⟨g',t',cs,fuel,p,hg',ht',hv,hd⟩:=Lib.laidMet.reads hL hm
 obtain rfl:=Option.some.inj ((show Tryz.prog.globalNamed "bolthole/parse.marks"=some 2 by kernel_rfl).symm.trans hg')
 obtain rfl:=Option.some.inj ((show (Tryz.prog.globals[2]?).map (·.type)=some 153 by kernel_rfl).symm.trans ht')
 have e:=table_of hd rfl
 have hcell:CellsAt W 2 0 tabS:=by
  intro j u hj
  have hc:=World.var?_cell (P:=Tryz.prog) (show Tryz.prog.globalNamed "bolthole/parse.marks"=some 2 by kernel_rfl) hv j
  rw [Nat.zero_add,hc,← Array.getElem?_toList,e]
  exact hj
 have h0:=hcell 0 _ rfl
 have hlt:=World.block_lt_of_cell? W _ h0
 refine ⟨hlt,?_,hcell⟩
 unfold World.cell? at h0
 cases ho:W.heap[2]? with
 | none=>rw [ho] at h0;cases h0
 | some o =>
  refine ⟨o,rfl,?_⟩
  rw [ho] at h0
  cases o <;> first|rfl|(simp at h0)
end Go.Proofs.YtojoahlpgmnbnaaGreatDoor.J
namespace Go.Proofs.YtojoahlpgmnbnaaGreatDoor.Q
open Go.Lib Go.Proofs.YtojoahlpgmnbnaaGreatDoor.U Go.Proofs.YtojoahlpgmnbnaaGreatDoor.S
structure PcP where
 f:Nat
 e:Nat
 d:Bool
 j:Bool
def cuts (s:By) (a n:Nat):List Nat:=(List.range' a n).filter (beg s)
def hw (x:By):Bool:=!(scanB (okB ⟨x.toArray⟩) x).isEmpty
def made (s:By) (f e:Nat):PcP:=⟨f,e,beg s f,!beg s f&&hw ((s.drop f).take (e - f))⟩
def heads (s:By):Nat→List Nat→List PcP
 | _,[]=>[]
 | f,c :: cs=>made s f c :: heads s c cs
def lastD:Nat→List Nat→Nat
 | f,[]=>f
 | _,c :: cs=>lastD c cs
def chain (s:By) (e f:Nat) (cs:List Nat):List PcP:=heads s f cs++[made s (lastD f cs) e]
def pieces (s:By):List PcP:=chain s s.length 0 (cuts s 1 (s.length - 1))
theorem heads_app (s:By):∀ (A B:List Nat) (f:Nat),heads s f (A++B)=heads s f A++heads s (lastD f A) B
 | [],_,_=>rfl
 | c :: A,B,f=>by simp only [List.cons_append,heads,lastD,heads_app s A B c]
theorem lastD_app:∀ (A B:List Nat) (f:Nat),lastD f (A++B)=lastD (lastD f A) B
 | [],_,_=>rfl
 | c :: A,B,f=>by simp only [List.cons_append,lastD,lastD_app A B c]
theorem heads_len (s:By):∀ (A:List Nat) (f:Nat),(heads s f A).length=A.length
 | [],_=>rfl
 | c :: A,f=>by simp only [heads,List.length_cons,heads_len s A c]
theorem chain_len (s:By) (e f:Nat) (cs:List Nat):(chain s e f cs).length=cs.length+1:=by unfold chain;simp [heads_len]
theorem lastD_mem:∀ (A:List Nat) (f:Nat),lastD f A=f∨lastD f A∈A
 | [],_=>.inl rfl
 | c :: A,f=>by
  rcases lastD_mem A c with h|h
  ·exact .inr (by simp only [lastD];rw [h];simp)
  ·exact .inr (by simp only [lastD];exact List.mem_cons_of_mem _ h)
theorem cuts_succ (s:By) (a n:Nat):cuts s a (n+1)=if beg s a=true then a :: cuts s (a+1) n else cuts s (a+1) n:=by
 unfold cuts
 rw [List.range'_succ,List.filter_cons]
theorem cuts_app (s:By) (a m n:Nat):cuts s a (m+n)=cuts s a m++cuts s (a+m) n:=by
 unfold cuts
 rw [← List.filter_append,List.range'_append_1]
theorem cuts_mem {s:By} {a n c:Nat} (h:c∈cuts s a n):a≤c∧c<a+n∧beg s c=true:=by
 unfold cuts at h
 rw [List.mem_filter,List.mem_range'_1] at h
 exact ⟨h.1.1,h.1.2,h.2⟩
theorem cuts_up (s:By) (a n:Nat):(cuts s a n).Pairwise (·<·):=by
 unfold cuts
 exact (List.pairwise_lt_range' (s:=a) (n:=n)).filter _
theorem declW_pos {v:By} (h:declW v=true):1≤v.length:=by
 cases v with
 | nil=>cases h
 | cons c r=>simp
def Fol:Nat→List PcP→Prop
 | _,[]=>True
 | a,p :: r=>p.f=a∧a≤p.e∧Fol p.e r
def endE:Nat→List PcP→Nat
 | a,[]=>a
 | _,p :: r=>endE p.e r
theorem fol_end:∀ {l:List PcP} {a:Nat},Fol a l→a≤endE a l
 | [],_,_=>Nat.le_refl _
 | _ :: r,_,h=>Nat.le_trans h.2.1 (fol_end (l:=r) h.2.2)
theorem fol_mem:∀ {l:List PcP} {a:Nat},Fol a l→∀ p∈l,a≤p.f∧p.f≤p.e∧p.e≤endE a l
 | [],_,_,p,hp=>by cases hp
 | q :: r,a,h,p,hp=>by
  rcases List.mem_cons.1 hp with rfl|hp
  ·exact ⟨by rw [h.1];exact Nat.le_refl _,by rw [h.1];exact h.2.1,fol_end (l:=r) h.2.2⟩
  ·have h1:=fol_mem (l:=r) h.2.2 p hp
   have:=h.2.1
   exact ⟨by omega,h1.2⟩
theorem fol_heads (s:By) (e:Nat):∀ (cs:List Nat) (f:Nat),(f :: cs).Pairwise (·<·)→(∀ c∈f :: cs,c≤e)→Fol f (chain s e f cs)∧endE f (chain s e f cs)=e
 | [],f,_,h=>⟨⟨rfl,h f (by simp),trivial⟩,rfl⟩
 | c :: cs,f,hp,h=>by
  have hp2:=List.pairwise_cons.1 hp
  obtain ⟨h1,h2⟩:=fol_heads s e cs c hp2.2 (fun x hx=>h x (List.mem_cons_of_mem _ hx))
  exact ⟨⟨rfl,Nat.le_of_lt (hp2.1 c (by simp)),h1⟩,h2⟩
theorem fol_pieces (s:By):Fol 0 (pieces s)∧endE 0 (pieces s)=s.length:=by
 refine fol_heads s s.length _ 0 ?_ ?_
 ·refine List.pairwise_cons.2 ⟨fun c hc=>?_,cuts_up _ _ _⟩
  have:=(cuts_mem hc).1
  omega
 ·intro c hc
  rcases List.mem_cons.1 hc with rfl|hc
  ·exact Nat.zero_le _
  ·have:=(cuts_mem hc).2.1;omega
end Go.Proofs.YtojoahlpgmnbnaaGreatDoor.Q
namespace Go.Proofs.YtojoahlpgmnbnaaGreatDoor.Ud
open Go.Lib Go.Proofs.YtojoahlpgmnbnaaGreatDoor.U Go.Proofs.YtojoahlpgmnbnaaGreatDoor.S Go.Proofs.YtojoahlpgmnbnaaGreatDoor.Q Go.Proofs.YtojoahlpgmnbnaaGreatDoor.T
open Go.Proofs.YtojoahlpgmnbnaaGreatDoor.K (declP)
structure DcP where
 f:Nat
 e:Nat
 tx:ByteArray
 p:Pt
 a:Int
 r:Int
def declT (t:ByteArray):Pt × Int × Int:=declP (scanB (okB t) t.toList) t.size
def mkDc (f e:Nat) (t:ByteArray):DcP:=⟨f,e,t,(declT t).1,(declT t).2.1,(declT t).2.2⟩
def dcOf (s:ByteArray) (q:PcP):DcP:=mkDc q.f q.e (s.extract q.f q.e)
def decls (s:ByteArray):List DcP:=((pieces s.toList).filter (·.d)).map (dcOf s)
def junks (s:ByteArray):List (Nat × Nat):=((pieces s.toList).filter (·.j)).map fun q=>(q.f,q.e)
def txs (l:List DcP):List ByteArray:=l.map (·.tx)
def Cnt (g:Nat→Bool) (k n:Nat):Prop:=n≤k∧(∀ i,i<n→g i=true)∧(n=k∨g n=false)
def cnt (g:Nat→Bool):Nat→Nat→Nat
 | 0,i=>i
 | k+1,i=>if g i=true then cnt g k (i+1) else i
theorem cnt_cnt (g:Nat→Bool):∀ (k i:Nat),(∀ j,j<i→g j=true)→Cnt g (k+i) (cnt g k i)
 | 0,i,h=>⟨by rw [cnt];omega,by rw [cnt];exact h,.inl (by rw [cnt];omega)⟩
 | k+1,i,h=>by
  rw [cnt]
  by_cases hg:g i=true
  ·rw [if_pos hg]
   have:=cnt_cnt g k (i+1) (fun j hj=>by
    by_cases h1:j<i
    ·exact h j h1
    ·rw [show j=i by omega];exact hg)
   rw [show k+1+i=k+(i+1) by omega]
   exact this
  ·rw [if_neg hg]
   exact ⟨by omega,h,.inr (by simpa using hg)⟩
theorem Cnt.one {g:Nat→Bool} {k n m:Nat} (h:Cnt g k n) (h':Cnt g k m):n=m:=by
 obtain ⟨h1,h2,h3⟩:=h
 obtain ⟨k1,k2,k3⟩:=h'
 rcases Nat.lt_trichotomy n m with hl|hl|hl
 ·have:=k2 n hl
  rcases h3 with h3|h3
  ·omega
  ·rw [this] at h3;cases h3
 ·exact hl
 ·have:=h2 m hl
  rcases k3 with k3|k3
  ·omega
  ·rw [this] at k3;cases k3
def gH (A B:List ByteArray) (i:Nat):Bool:=decide (A[i]?=B[i]?)
def gT (A B:List ByteArray) (i:Nat):Bool:=decide (A[A.length - 1 - i]?=B[B.length - 1 - i]?)
def headN (A B:List ByteArray):Nat:=cnt (gH A B) (min A.length B.length) 0
def tailN (A B:List ByteArray):Nat:=cnt (gT A B) (min A.length B.length - headN A B) 0
def keptN (A B:List ByteArray):Nat:=headN A B+tailN A B
theorem head_cnt (A B:List ByteArray):Cnt (gH A B) (min A.length B.length) (headN A B):=cnt_cnt _ _ 0 (fun _ h=>absurd h (Nat.not_lt_zero _))
theorem tail_cnt (A B:List ByteArray):Cnt (gT A B) (min A.length B.length - headN A B) (tailN A B):=cnt_cnt _ _ 0 (fun _ h=>absurd h (Nat.not_lt_zero _))
theorem kept_le (A B:List ByteArray):headN A B+tailN A B≤min A.length B.length:=by
 have h:=(head_cnt A B).1
 have k:=(tail_cnt A B).1
 omega
def key (s:ByteArray) (q:PcP):Bool × ByteArray:=(q.d,s.extract q.f q.e)
theorem txs_len (l:List DcP):(txs l).length=l.length:=List.length_map _
theorem decls_len (s:ByteArray):(decls s).length≤(pieces s.toList).length:=by unfold decls;rw [List.length_map];exact List.length_filter_le _ _
theorem pieces_len (s:By):(pieces s).length≤s.length+1:=by
 unfold pieces
 rw [chain_len]
 have h:(cuts s 1 (s.length - 1)).length≤s.length - 1:=by unfold cuts;exact Nat.le_trans (List.length_filter_le _ _) (by simp)
 omega
end Go.Proofs.YtojoahlpgmnbnaaGreatDoor.Ud
namespace Go.Proofs.YtojoahlpgmnbnaaGreatDoor.J
open Go.RowKit
open Go.Lib hiding intOf
open U S T
theorem set_five {W:World} {b:Nat} {t:TypeId} {u0 u1 u2 u3 u4:Value} (v0 v1 v2 v3 v4:Value) (h:W.heap[b]?=some (.cells #[u0,u1,u2,u3,u4] t (0,0))) :
  ∃ W',((((W.setCell ⟨b,0,none⟩ v0).setCell ⟨b,1,none⟩ v1).setCell ⟨b,2,none⟩ v2).setCell ⟨b,3,none⟩ v3).setCell ⟨b,4,none⟩ v4=W'∧W'.heap[b]?=some (.cells #[v0,v1,v2,v3,v4] t (0,0))∧(∀ k,k≠b→W'.heap[k]?=W.heap[k]?)∧∀ B,B≤b→Below B W W':=by
 have s0:(W.setCell ⟨b,0,none⟩ v0).heap[b]?=some (.cells #[v0,u1,u2,u3,u4] t (0,0)):=Go.Joins.block_setCell h v0
 have s1:((W.setCell ⟨b,0,none⟩ v0).setCell ⟨b,1,none⟩ v1).heap[b]?=some (.cells #[v0,v1,u2,u3,u4] t (0,0)):=Go.Joins.block_setCell s0 v1
 have s2:(((W.setCell ⟨b,0,none⟩ v0).setCell ⟨b,1,none⟩ v1).setCell ⟨b,2,none⟩ v2).heap[b]?=some (.cells #[v0,v1,v2,u3,u4] t (0,0)):=Go.Joins.block_setCell s1 v2
 have s3:((((W.setCell ⟨b,0,none⟩ v0).setCell ⟨b,1,none⟩ v1).setCell ⟨b,2,none⟩ v2).setCell ⟨b,3,none⟩ v3).heap[b]?=some (.cells #[v0,v1,v2,v3,u4] t (0,0)):=Go.Joins.block_setCell s2 v3
 have s4:(((((W.setCell ⟨b,0,none⟩ v0).setCell ⟨b,1,none⟩ v1).setCell ⟨b,2,none⟩ v2).setCell ⟨b,3,none⟩ v3).setCell ⟨b,4,none⟩ v4).heap[b]?=some (.cells #[v0,v1,v2,v3,v4] t (0,0)):=Go.Joins.block_setCell s3 v4
 have oth:∀ k,k≠b→(((((W.setCell ⟨b,0,none⟩ v0).setCell ⟨b,1,none⟩ v1).setCell ⟨b,2,none⟩ v2).setCell ⟨b,3,none⟩ v3).setCell ⟨b,4,none⟩ v4).heap[k]?=W.heap[k]?:=fun k hk =>
  (Below.heap_setCell _ _ _ _ hk).trans ((Below.heap_setCell _ _ _ _ hk).trans ((Below.heap_setCell _ _ _ _ hk).trans ((Below.heap_setCell _ _ _ _ hk).trans (Below.heap_setCell _ _ _ _ hk))))
 have b1:∀ B,B≤b→∀ (X:World) (j:Nat) (v:Value),Below B X (X.setCell ⟨b,j,none⟩ v):=fun B hB X j v=>⟨rfl,rfl,rfl,by simp,fun k hk=>Below.heap_setCell _ _ _ _ (by show k≠b;omega)⟩
 exact ⟨_,rfl,s4,oth,fun B hB=>((((b1 B hB _ _ _).trans (b1 B hB _ _ _)).trans (b1 B hB _ _ _)).trans (b1 B hB _ _ _)).trans (b1 B hB _ _ _)⟩
set_option maxHeartbeats 4000000 in
set_option maxRecDepth 20000 in
theorem clone_own {w:World} {a:Option Addr} {n c:Nat} {xs:List Value} (hc:n=0∨∃ g off,a=some ⟨g,off,none⟩∧CellsAt w g off xs) (hl:xs.length=n*5) (hone:∀ u∈xs,u.oneCell'=true) (hw:n≤1099511627776) :
  Calls Tryz.prog 54 #[.slice a n c] w fun e w'=>∃ v',e=.returned v'∧w'.ownsRow w.heap.size 49 5 v' n xs∧Below w.heap.size w w':=by
 obtain ⟨iP,hi0,hz0,hz1,hz2⟩:=info_parts infoP
 have q22:∀ (w:World) (a:Option Addr) (n c n' c':Nat),(binOp .eql 47 (.slice a n c) (.slice none n' c')).run Tryz.prog w=.ok (.bool a.isNone) w:=fun w a n c n' c'=>Lib.run_eql_slice_nil w _ _ a n c n' c' Tryz.underlying47
 have HC:=hid hc
 have HL:=hid hl
 have HO:=hid hone
 clear hc hl hone
 cases a with
 | none =>
  have h0:n=0:=by
   rcases HC.out with h|⟨g,off,h,_⟩
   ·exact h
   ·cases h
  subst h0
  have hx:xs=[]:=List.eq_nil_of_length_eq_zero (by have:=HL.out;omega)
  subst hx
  go_enter Tryz.func54,Tryz.ntmps54
  go_wp2_with fail
  go_ret
  exact ⟨_,rfl,World.ownsRow_nil _ _ _ _,Below.refl _ _⟩
 | some ad =>
  go_enter Tryz.func54,Tryz.ntmps54
  have hcb:∀ X,Below w.heap.size w X→(n=0∨∃ g off,some ad=some ⟨g,off,none⟩∧CellsAt X g off xs):=fun X hX=>HC.out.imp id (fun ⟨g,off,h1,h2⟩=>⟨g,off,h1,fun j u hj=>(hX.cell (World.block_lt_of_cell? w _ (h2 j u hj))).trans (h2 j u hj)⟩)
  have HCB:=hid hcb
  clear hcb
  go_wp2_with (at_builtin;refine wpList_append_row rfl _ _ 47 rfl w.heap.size 49 iP _ 5 72 Tryz.underlying47 hi0 hz0 hz1 hz2 rfl (by decide) _ 0 [] rfl (World.ownsRow_made w #[] 0 (Nat.le_refl _) (Nat.zero_le _) rfl) _ n c xs rfl HL.out (HCB.out _ ((Below.refl _ _).alloc (Nat.le_refl _) _)) HO.out (by unfold maxLen;omega) (by omega) (by simp) ?_)
  intro v' w1 hown hgrow _
  have hb:Below w.heap.size w w1:=((Below.refl _ w).alloc (Nat.le_refl _) (.cells #[] 49)).grown hgrow (by simp) (by intro k hk;simp [Value.ownBlock] at hk;omega)
  have HOwn:Hid (w1.ownsRow w.heap.size 49 5 v' n xs):=hid (by simpa using hown)
  have HB:=hid hb
  clear hown hgrow hb
  go_wp2_with fail
  go_ret
  exact ⟨v',rfl,HOwn.out,HB.out⟩
def moved (f e x by':Int):Int:=if f=0∧e=0 then x else wrap64 (x+by')
mutual
def shiftP (by':Int):Pt→Pt
 | .mk k t f e ks=>.mk k t (moved f e f by') (moved f e e by') (shiftL by' ks)
def shiftL (by':Int):List Pt→List Pt
 | []=>[]
 | p :: r=>shiftP by' p :: shiftL by' r
end
theorem shiftL_map (b:Int):∀ l,shiftL b l=l.map (shiftP b)
 | []=>rfl
 | p :: r=>by rw [shiftL,shiftL_map b r];rfl
theorem shiftL_length (b:Int) (l:List Pt):(shiftL b l).length=l.length:=by rw [shiftL_map,List.length_map]
theorem shiftL_snoc (b:Int) (l:List Pt) (p:Pt):shiftL b (l++[p])=shiftL b l++[shiftP b p]:=by rw [shiftL_map,shiftL_map,List.map_append];rfl
theorem shiftL_take_succ (b:Int) {l:List Pt} {i:Nat} (h:i<l.length):shiftL b (l.take (i+1))=shiftL b (l.take i)++[shiftP b l[i]]:=by
 rw [List.take_succ_eq_append_getElem h,shiftL_snoc]
end Go.Proofs.YtojoahlpgmnbnaaGreatDoor.J
namespace Go.Proofs.YtojoahlpgmnbnaaGreatDoor.J
open Go.RowKit
open Go.Lib hiding intOf
open U S T
theorem bstr_inj {a b:By}:bstr a=bstr b ↔ a=b:=by
 constructor
 ·intro h
  have:=congrArg (fun x:ByteArray=>x.data.toList) h
  simpa [bstr] using this
 ·intro h;rw [h]
theorem two_new (w:World) (o1 o2:Obj):∃ w1,(w.alloc o1).alloc o2=w1∧w1.heap[w.heap.size]?=some o1∧w1.heap[w.heap.size+1]?=some o2∧Below w.heap.size w w1∧w.heap.size+1<w1.heap.size:=by
 have s1:(w.alloc o1).heap.size=w.heap.size+1:=by simp
 refine ⟨_,rfl,?_,?_,((Below.refl _ _).alloc (Nat.le_refl _) _).alloc (by omega) _,by simp⟩
 ·rw [Below.heap_alloc _ _ _ (by omega)];exact heap_new w o1
 ·rw [← s1];exact heap_new _ o2
theorem three_new (w:World) (o1 o2 o3:Obj):∃ w1,((w.alloc o1).alloc o2).alloc o3=w1∧w1.heap[w.heap.size]?=some o1∧w1.heap[w.heap.size+1]?=some o2∧w1.heap[w.heap.size+1+1]?=some o3∧Below w.heap.size w w1∧w.heap.size+1+1<w1.heap.size:=by
 obtain ⟨w2,h1,h2,h3,h4,h5⟩:=two_new w o1 o2
 have hs:w2.heap.size=w.heap.size+1+1:=by rw [← h1];simp
 refine ⟨_,rfl,?_,?_,?_,?_,?_⟩
 ·rw [h1,Below.heap_alloc _ _ _ (by omega)];exact h2
 ·rw [h1,Below.heap_alloc _ _ _ (by omega)];exact h3
 ·rw [h1,← hs];exact heap_new _ _
 ·rw [h1];exact h4.alloc (by omega) _
 ·rw [h1];simp;omega
theorem deepL_snoc:∀ (a:List Pt) (p:Pt),deepL (a++[p])=max (deepL a) (deep p)
 | [],p=>by rw [List.nil_append,deepL,deepL,deepL];omega
 | x :: r,p=>by rw [List.cons_append,deepL,deepL,deepL_snoc r p];omega
mutual
theorem deep_wt:∀ p,deep p≤wtP p
 | .mk k t f e ks=>by have:=deepL_wt ks;rw [deep,wtP];omega
theorem deepL_wt:∀ l,deepL l≤wtL l
 | []=>by rw [deepL];exact Nat.zero_le _
 | p :: r=>by have:=deep_wt p;have:=deepL_wt r;rw [deepL,wtL];omega
end
def DeepC (p:Pt):Prop:=∀ (lv:Value) (R:Nat→Prop) (w:World),KidsIn w R p lv→wtP p≤1099511627776 →
 Calls Tryz.prog 45 #[arg p lv] w fun e w'=>e=.returned (.int .i64 (deep p))∧Below w.heap.size w w'
set_option maxHeartbeats 4000000 in
theorem refDeep_any:∀ p,DeepC p:=Pt.ind fun k t f e ks IH lv R w hv hw=>by
 obtain ⟨a,c,rfl⟩:=kids_form hv
 obtain ⟨_,hcap,hrow⟩:=kids_row hv
 have HR:=hid hrow
 have HIH:=hid IH
 rw [wtP] at hw
 have hlb:ks.length≤1099511627776:=Nat.le_trans (wtL_length ks) (by omega)
 have HWM:=hid (fun v (h:v∈ks)=>Nat.le_trans (wtL_mem h) (show wtL ks≤1099511627776 by omega))
 have HDW:=hid (show deepL ks≤1099511627776 by have:=deepL_wt ks;omega)
 have hD:deep (.mk k t f e ks)=deepL ks+1:=by rw [deep]
 rw [hD]
 obtain ⟨n,hn⟩:∃ n,ks.length=n:=⟨_,rfl⟩
 have HN:=hid hn
 simp only [arg,five]
 rw [hn]
 rw [hn] at hlb
 obtain ⟨kb,hkb⟩:∃ x,bstr k=x:=⟨_,rfl⟩
 obtain ⟨tb,htb⟩:∃ x,bstr t=x:=⟨_,rfl⟩
 rw [hkb,htb]
 clear hv hrow IH hw hn hcap hkb htb hD
 go_enter Tryz.func45,Tryz.ntmps45
 go_wp2_with fail
 obtain ⟨w1,hw1,hq1,hb1,hz1⟩:=new_block w (.cells #[.string kb,.string tb,.int .i64 f,.int .i64 e,.slice a n c] 49)
 rw [hw1]
 have HQ1:=hid hq1
 have HB1:=hid hb1
 clear hq1 hb1 hw1
 go_loopw [3,4] (fun mv iv wr=>∃ i m:Nat,iv=.int .i64 i∧mv=.int .i64 m∧i≤n∧Hid (m=deepL (ks.take i))∧Hid (Below w1.heap.size w1 wr)) (fun _ iv _=>n - (Go.RowKit.intOf iv).toNat)
 case atStart=>exact ⟨0,0,rfl,rfl,Nat.zero_le _,hid (by rw [List.take_zero,deepL]),hid (Below.refl _ _)⟩
 case round =>
  obtain ⟨i,m,rfl,rfl,hi,HM,HB⟩:=hrel
  have hq:=(HB.out.block w.heap.size hz1).trans HQ1.out
  obtain ⟨⟨k0,k1,k2,k3,k4⟩,kf⟩:=cells_five hq
  have hz2:=HB.out.size
  clear hq
  by_cases hlt:i<n
  ·have hll:i<ks.length:=by rw [HN.out];exact hlt
   obtain ⟨g,off,xs,rfl,hg,hc,hp⟩:=HR.out.resolve_left (fun h=>by rw [h] at hll;exact Nat.not_lt_zero _ hll)
   have hb0:Below w.heap.size w wr:=HB1.out.trans (HB.out.mono HB1.out.size)
   obtain ⟨k',t',f',e',ks',a',c',hK⟩:=kid_at hp hc i hll
   have hK:=hK.below hb0
   have cP:=(HIH.out ks[i] (List.getElem_mem hll)) (.slice a' ks'.length c') R wr (by rw [hK.eq];exact hK.kids) (HWM.out _ (List.getElem_mem hll))
   obtain ⟨d',hd'⟩:∃ x,deep ks[i]=x:=⟨_,rfl⟩
   have HM2:=hid (show max m d'=deepL (ks.take (i+1)) by rw [List.take_succ_eq_append_getElem hll,deepL_snoc,hd',HM.out])
   rw [hd'] at cP
   simp only [hK.eq,arg,five] at cP
   have j0:=hK.k0
   have j1:=hK.k1
   have j2:=hK.k2
   have j3:=hK.k3
   have j4:=hK.k4
   clear hd' hc hp hK hb0 HM
   go_wp2_with fail
   refine cP.mono ?_
   rintro e w2 ⟨rfl,hb2⟩
   have HB2:=hid (HB.out.trans (hb2.mono HB.out.size))
   clear cP hb2
   have hmx:max (m:Int) (d':Int)=((max m d':Nat):Int):=by omega
   go_wp2_with fail
   go_roundw
   case rel=>exact ⟨i+1,max m d',by go_num,by first|rfl|rw [hmx],by omega,HM2,HB2⟩
   case measure=>simp [Go.RowKit.intOf];omega
  ·obtain rfl:i=n:=by omega
   have hM:=HM.out
   rw [List.take_of_length_le (by rw [HN.out];exact Nat.le_refl _)] at hM
   have hmb:m≤1099511627776:=by rw [hM];exact HDW.out
   have HM3:=hid hM
   clear HM hM
   go_wp2_with fail
   go_ret
   exact ⟨by rw [← HM3.out];go_num,HB1.out.trans (HB.out.mono HB1.out.size)⟩
end Go.Proofs.YtojoahlpgmnbnaaGreatDoor.J
