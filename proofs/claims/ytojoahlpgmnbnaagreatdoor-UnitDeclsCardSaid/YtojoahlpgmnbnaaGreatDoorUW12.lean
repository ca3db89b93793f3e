/- What the claim needs of the texts KDecl, JLaid, QPieces, UPlain, JClone, JSame. -/
import Derived.Test.YtojoahlpgmnbnaaGreatDoorUWOp
import Derived.Test.YtojoahlpgmnbnaaGreatDoorUW11
import Derived.Test.YtojoahlpgmnbnaaGreatDoorRows
import Derived.Test.YtojoahlpgmnbnaaGreatDoorUW10
import Derived.OpenShut
import Derived.Lib.LaidTab
import Derived.Lib.LaidU8T
import Derived.PinnedBridge
import Derived.Test.YtojoahlpgmnbnaaGreatDoorUW9
import Derived.Lib.SliceRun
set_option maxRecDepth 20000
set_option maxHeartbeats 16000000
namespace Go.Proofs.YtojoahlpgmnbnaaGreatDoor
namespace K
open Go.RowKit
open Go.Lib hiding intOf
open U S T J
def qH (w:World):Prop:=2<w.heap.size∧(∃ o:Obj,w.heap[2]?=some o∧o.isCells=true)∧dJ w 2 0 o9
theorem qH.later {w w':World} (h:qH w) (hb:Below w.heap.size w w'):qH w':=by
 obtain ⟨h1,⟨o,h2,h3⟩,h4⟩:=h;have hq:=hb.block _ h1;refine ⟨aC h1 hb.size,⟨o,hq.trans h2,h3⟩,fun j u hj=>?_⟩;have:=h4 j u hj
 exact (hb.cell (p:=⟨_,0+j,none⟩) h1).trans this
theorem Dx {O O':Nat→Prop} {W W':World} {B:Nat} (h:bN O O' W W') (hO:∀ k,O k→B≤k) (hB:B≤W.heap.size):Below B W W' :=
 ⟨h.os,h.tape,h.output,h.size,fun k hk=>h.block k (by omega) (fun ho=>by have:=hO k ho;omega)⟩
theorem YX {d:Nat} {s:By} {right:Bool} {lv:Value} {O:Nat→Prop} {B:Nat} {W:World} (hM:Mem d (fD right s) s.length lv ⟨0,[],[root]⟩ O W) (hl:(fD right s).length≤1660) (hwt:∀ p,pg (fD right s)=.part p→sM p≤100000000) (hG:qH W) (hO:∀ k,O k→B≤k) (hB:B≤W.heap.size) (hg:2<B) :
  Calls Tryz.prog 76 #[ptr d] W fun e W'=>∃ q lv at' er,e=.returned (.tuple #[arg q lv,.int .i64 at',.int .i64 er])∧aU W' (fun _=>True) q lv∧sM q≤100000000∧pW (sF q)∧Below B W W' ∧
   kS (fD right s) s.length=if 40<deep q then (gu,0,22) else (q,at',er):=by
 have hG':EF O W:=⟨⟨hG.1,fun h=>by have:=hO _ h;omega,hG.2.1⟩,hG.2.2⟩;refine (zl hM (Fh right s) hl hG').mono ?_;intro e W' h
 unfold kS
 cases hf:pg (fD right s) with
 | bad j =>
  rw [hf] at h;obtain ⟨O',rfl,hS⟩:=h;refine ⟨gu,.slice none 0 0,(tok (fD right s) s.length j).f,101,rfl,⟨none,0,rfl,ae _,.inl rfl⟩,by decide,pW.nil,Dx hS hO hB,?_⟩;rw [ai (by decide)]
 | part p =>
  rw [hf] at h;obtain ⟨qF,O',rfl,hk,hS⟩:=h
  exact ⟨p,qF,0,0,rfl,aU.later (fun _ _ _=>rfl) (fun _ _=>trivial) _ _ hk,hwt p hf,(by have h:=Cc hf;cases p;unfold Nn at h;exact h.2),Dx hS hO hB,rfl⟩
theorem wC {W:World} {b:Nat} {t:TypeId} {u0 u1 u2 u3 u4:Value} (v0 v1 v2 v3 v4:Value) (h:W.heap[b]?=some (.cells #[u0,u1,u2,u3,u4] t (0,0))) :
  ∃ W',((((W.setCell ⟨b,0,none⟩ v0).setCell ⟨b,1,none⟩ v1).setCell ⟨b,2,none⟩ v2).setCell ⟨b,3,none⟩ v3).setCell ⟨b,4,none⟩ v4=W'∧W'.heap[b]?=some (.cells #[v0,v1,v2,v3,v4] t (0,0))∧(∀ k,k≠b→W'.heap[k]?=W.heap[k]?)∧∀ B,B≤b→Below B W W':=by
 have s0:(W.setCell ⟨b,0,none⟩ v0).heap[b]?=some (.cells #[v0,u1,u2,u3,u4] t (0,0)):=ay h v0;have s1:((W.setCell ⟨b,0,none⟩ v0).setCell ⟨b,1,none⟩ v1).heap[b]?=some (.cells #[v0,v1,u2,u3,u4] t (0,0)):=ay s0 v1;have s2:(((W.setCell ⟨b,0,none⟩ v0).setCell ⟨b,1,none⟩ v1).setCell ⟨b,2,none⟩ v2).heap[b]?=some (.cells #[v0,v1,v2,u3,u4] t (0,0)):=ay s1 v2;have s3:((((W.setCell ⟨b,0,none⟩ v0).setCell ⟨b,1,none⟩ v1).setCell ⟨b,2,none⟩ v2).setCell ⟨b,3,none⟩ v3).heap[b]?=some (.cells #[v0,v1,v2,v3,u4] t (0,0)):=ay s2 v3;have s4:(((((W.setCell ⟨b,0,none⟩ v0).setCell ⟨b,1,none⟩ v1).setCell ⟨b,2,none⟩ v2).setCell ⟨b,3,none⟩ v3).setCell ⟨b,4,none⟩ v4).heap[b]?=some (.cells #[v0,v1,v2,v3,v4] t (0,0)):=ay s3 v4
 have pX:∀ k,k≠b→(((((W.setCell ⟨b,0,none⟩ v0).setCell ⟨b,1,none⟩ v1).setCell ⟨b,2,none⟩ v2).setCell ⟨b,3,none⟩ v3).setCell ⟨b,4,none⟩ v4).heap[k]?=W.heap[k]?:=fun k hk =>
  (aj _ _ _ _ hk).trans ((aj _ _ _ _ hk).trans ((aj _ _ _ _ hk).trans ((aj _ _ _ _ hk).trans (aj _ _ _ _ hk))))
 have b1:∀ B,B≤b→∀ (X:World) (j:Nat) (v:Value),Below B X (X.setCell ⟨b,j,none⟩ v):=fun B hB X j v=>⟨rfl,rfl,rfl,by simp,fun k hk=>aj _ _ _ _ (by show k≠b;omega)⟩
 exact ⟨_,rfl,s4,pX,fun B hB=>((((b1 B hB _ _ _).trans (b1 B hB _ _ _)).trans (b1 B hB _ _ _)).trans (b1 B hB _ _ _)).trans (b1 B hB _ _ _)⟩
theorem JN {W:World} {R X:Nat→Prop} (hX:∀ g off k,X g→k≠[]→W.cell? ⟨g,off,none⟩≠some (.string (aX k))) {k t:By} {f e:Int} {ks:List Pt} {lv:Value} (hn:pW ks) (h:aU W R (.mk k t f e ks) lv):aU W (fun g=>R g∧¬ X g) (.mk k t f e ks) lv :=
 yh hX (.mk [0] t f e ks) lv (by unfold Nn;exact ⟨by decide,hn⟩) h
def rP (s:ByteArray) (w:World) (e:Ending) (w':World):Prop:=∃ p at' er lv,kS (fD (okB s) s.toList) s.size=(p,at',er)∧e=.returned (.tuple #[arg p lv,.int .i64 at',.int .i64 er])∧aU w' (fun _=>True) p lv∧Below w.heap.size w w'∧sM p≤100000000
def xn (s:ByteArray) (w:World) (e:Ending) (w':World):Prop:=∃ p at' er lv,kS (fD (okB s) s.toList) s.size=(p,at',er)∧e=.returned (.tuple #[arg p lv,.int .i64 at',.int .i64 er])∧aU w' (fun g=>w.heap.size≤g) p lv∧Below w.heap.size w w'∧sM p≤100000000
theorem SA (s:ByteArray) (w:World) (hs:s.size≤1000000000000) (hlw:(fD (okB s) s.toList).length≤1660) (hwf:∀ p,pg (fD (okB s) s.toList)=.part p→sM p≤100000000) (hT:rM w) (hG:qH w) :
  Calls Tryz.prog 52 #[.string s] w (rP s w):=by
 have hgl:=hG.1;have HT:=hid hT;have HG:=hid hG;have HS:=hid hs;have HLW:=hid hlw;have Ua:=hid hwf;have htl:=dP s;clear hT hG hlw hwf
 go_enter Tryz.func52,Tryz.ntmps52
 go_upto_region 1 with fail
 obtain ⟨w1,hw1,hq1,hb1,hz1⟩:=gY w (.cells #[.string ⟨#[]⟩,.string ⟨#[]⟩,.int .i64 0,.int .i64 0,.slice none 0 0] 49);rw [hw1];have HB1:=hid hb1;have jC:=hid hq1;have HZ1:=hid hz1;have cN:=Ch s w1 HS.out (aJ HLW.out (by decide)) (HT.out.later hb1);clear hw1 hq1 hb1 hz1
 go_wp2_with fail
 refine cN.mono ?_;rintro e w2 ⟨d,rv,O,rfl,hM,hb2,hO⟩;have hz2:=HB1.out.size;have HB2:=hid (HB1.out.trans (hb2.mono hz2));have BN:=hid ((hb2.block _ HZ1.out).trans jC.out);have cR:=YX (B:=w1.heap.size) (by rw [htl];exact hM) HLW.out Ua.out (HG.out.later HB2.out) hO hb2.size (by omega);rw [htl] at cR;have HZ2:=hid (aC HZ1.out hb2.size);clear cN hM hO hb2
 go_wp2_with fail
 refine cR.mono ?_;rintro e w3 ⟨q,lv,at',er,rfl,hk,hwt,hnn,hb3,hdp⟩;have HB3:=hid (HB2.out.trans (hb3.mono hz2));have Qd:=hid ((hb3.block _ HZ1.out).trans BN.out);have HZ3:=hid (aC HZ2.out hb3.size);have Cm:=hid hdp;obtain ⟨k,t,f,e,ks⟩:=q;obtain ⟨a,c,rfl⟩:=J.eD hk;have HK:=hid hk;have HNN:=hid hnn;have HWT:=hid hwt
 have cD:=fun X (hX:Below w3.heap.size w3 X)=>Sy (.mk k t f e ks) (dE HK.out hX) (by have:=HWT.out;omega)
 obtain ⟨dp,YY⟩:∃ n,deep (.mk k t f e ks)=n:=⟨_,rfl⟩;rw [YY] at cD;have HDN:=hid YY;simp only [arg,five] at cD ⊢;obtain ⟨kb,hkb⟩:∃ x,aX k=x:=⟨_,rfl⟩;obtain ⟨tb,htb⟩:∃ x,aX t=x:=⟨_,rfl⟩;have HKB:=hid hkb;have HTB:=hid htb;rw [hkb,htb] at cD ⊢;obtain ⟨n,hn⟩:∃ n,ks.length=n:=⟨_,rfl⟩;have HN:=hid hn;rw [hn] at cD ⊢;clear cR hk hwt hnn hb3 hdp YY hkb htb hn htl hgl
 go_upto_region 2 with fail
 obtain ⟨w4,hw4,hq4,hb4,Et⟩:=gY w3 (.cells #[.string kb,.string tb,.int .i64 f,.int .i64 e,.slice a n c] 49);rw [hw4];have cD4:=cD w4 hb4;have JO:=hid hq4;have vw:=hid hb4;have kH:=hid Et;obtain ⟨⟨q0,q1,q2,q3,q4⟩,qf⟩:=J.bZ hq4;clear hw4 hq4 hb4 Et cD
 go_wp2_with fail
 refine cD4.mono ?_;rintro e' w5 ⟨rfl,hb5⟩;have xZ:=(hb5.block _ kH.out).trans JO.out;have XU:=(hb5.block _ (by have:=HZ3.out;have:=vw.out.size;omega)).trans ((vw.out.block _ HZ3.out).trans Qd.out);have sw:=hid (HB3.out.trans ((vw.out.trans (hb5.mono vw.out.size)).mono HB3.out.size))
 have hne:w3.heap.size≠w.heap.size:=by have:=HZ3.out;omega
 obtain ⟨⟨q0,q1,q2,q3,q4⟩,qf⟩:=J.bZ xZ;obtain ⟨⟨p0,p1,p2,p3,p4⟩,pf⟩:=J.bZ XU;have HK5:=hid (dE (dE HK.out vw.out) hb5);have HP5:=hid XU;obtain ⟨b,hb⟩:∃ b,w.heap.size=b:=⟨_,rfl⟩;have HWB:=hid hb;rw [hb] at p0 p1 p2 p3 p4 pf hne HP5 ⊢;clear cD4 hb5 xZ XU hb
 by_cases hd:40<dp
 ·go_wp2_with fail
  obtain ⟨Wf,hWf,f0,pX,hbf⟩:=wC (.string ⟨#[]⟩) (.string ⟨#[]⟩) (.int .i64 0) (.int .i64 0) (.slice none 0 0) HP5.out;rw [hWf];obtain ⟨⟨y0,y1,y2,y3,y4⟩,_⟩:=J.bZ f0;have hbw:Below w.heap.size w Wf:=sw.out.trans (hbf _ (by have:=HWB.out;omega))
  have hfin:rP s w (.returned (.tuple #[.agg #[.string ⟨#[]⟩,.string ⟨#[]⟩,.int .i64 0,.int .i64 0,.slice none 0 0],.int .i64 0,.int .i64 22])) Wf :=
   ⟨gu,0,22,.slice none 0 0,by rw [Cm.out,HDN.out,au hd],rfl,⟨none,0,rfl,ae _,.inl rfl⟩,hbw,by decide⟩
  clear hWf f0 pX hbf hbw q0 q1 q2 q3 q4 qf p0 p1 p2 p3 p4 pf
  simp [bodyPost,results,Tryz.results52,go_sem,y0,y1,y2,y3,y4]
  exact hfin
 ·go_wp2_with fail
  obtain ⟨Wf,hWf,f0,pX,hbf⟩:=wC (.string kb) (.string tb) (.int .i64 f) (.int .i64 e) (.slice a n c) HP5.out;rw [hWf];obtain ⟨⟨y0,y1,y2,y3,y4⟩,_⟩:=J.bZ f0;have hbw:Below w.heap.size w Wf:=sw.out.trans (hbf _ (by have:=HWB.out;omega))
  have UO:aU Wf (fun _=>True) (.mk k t f e ks) (.slice a ks.length c) :=
   aU.later (fun g hg _=>pX g hg.2) (fun _ _=>trivial) _ _ (JN (X:=fun g=>g=b) (fun g off k hg hk=>by subst hg;exact Bi HP5.out off k hk) HNN.out HK5.out)
  have hfin:rP s w (.returned (.tuple #[.agg #[.string kb,.string tb,.int .i64 f,.int .i64 e,.slice a n c],.int .i64 at',.int .i64 er])) Wf :=
   ⟨.mk k t f e ks,at',er,.slice a ks.length c,by rw [Cm.out,HDN.out,ai hd],by rw [arg,five,HKB.out,HTB.out,HN.out],UO,hbw,HWT.out⟩
  clear hWf f0 pX hbf hbw UO q0 q1 q2 q3 q4 qf p0 p1 p2 p3 p4 pf
  simp [bodyPost,results,Tryz.results52,go_sem,y0,y1,y2,y3,y4]
  exact hfin
theorem JP (s:ByteArray) (w:World) (hs:s.size≤600) (hT:rM w) (hG:qH w) :
  Calls Tryz.prog 52 #[.string s] w (rP s w) :=
 SA s w (by omega) (by have h:=FB (okB s) s.toList;have e:=dP s;omega) (fun p h=>Cj (by have e:=dP s;omega) h) hT hG
end K
namespace J
open Go.Proofs Go.Shelf Go.RowKit
open Go.Lib hiding intOf
open U S T
open K (qH o9)
theorem VA {W:World} {l:List (String × DataW Unit)} (hL:laidMet Tryz.prog l W) (h1:("unicode/utf8.first",Rows.laid_unicode_utf8_first)∈l) (h2:("unicode/utf8.acceptRanges",Rows.laid_unicode_utf8_acceptRanges)∈l):rM W :=
 utf8Tabs_of_readsT (U8Types.of196 lays) ⟨by kernel_rfl,by kernel_rfl,by kernel_rfl,by kernel_rfl,by kernel_rfl,by kernel_rfl,by kernel_rfl⟩
  (Pinned.utf8First_eq ▸ Lib.laidMet.reads hL h1) (Lib.laidMet.reads hL h2)
theorem Dy:Tryz.prog.cellsOf 152=2:=by kernel_rfl
theorem JQ:Tryz.prog.cellsOf 153=26:=by kernel_rfl
theorem L6:Tryz.prog.cellsOf 9=1:=by kernel_rfl
theorem L8:Tryz.prog.cellsOf 3=1:=by kernel_rfl
theorem FD {α:Type} {l:List α} (h:l.length=2):∃ a b,l=[a,b]:=by
 match l,h with
 | [a,b],_=>exact ⟨a,b,rfl⟩
theorem OY {s:ByteArray} {l:List UInt8} (h:s.data.toList=l):s=⟨l.toArray⟩:=by
 subst h
 cases s
 simp
theorem mF {H:Type} {enc:TypeId × Value→H} {W:World} {held:Bool} {fuel:Nat} {cs:List Value} {s:List UInt8} {k:Int} {x:DataW H × List MemPlace}
  (h:DataW.trod enc Tryz.prog W 0 (fun _=>true) held fuel 152 cs=some x) (hx:x.1=.agg [.lit (.string s),.lit (.int .i64 k)]):cs=[.string ⟨s.toArray⟩,.int .i64 k]:=by
 obtain ⟨xs,n,rfl,rfl,hcl,hxl,hfd⟩:=DataW.trod_struct Tryz.underlying152 h;rw [Dy] at hcl;obtain ⟨c0,c1,rfl⟩:=FD hcl;obtain ⟨y0,y1,rfl⟩:=FD (hxl.trans rfl);have f0:=hfd 0 _ rfl;have f1:=hfd 1 _ rfl;have g0:DataW.trod enc Tryz.prog W 0 (fun _=>true) held n 9 (([c0,c1].drop 0).take (Tryz.prog.cellsOf 9))=some y0:=f0;rw [L6] at g0;replace g0:DataW.trod enc Tryz.prog W 0 (fun _=>true) held n 9 [c0]=some y0:=g0;have g1:DataW.trod enc Tryz.prog W 0 (fun _=>true) held n 3 (([c0,c1].drop 1).take (Tryz.prog.cellsOf 3))=some y1:=f1;rw [L8] at g1;replace g1:DataW.trod enc Tryz.prog W 0 (fun _=>true) held n 3 [c1]=some y1:=g1;obtain ⟨ts,h0,e0,_⟩:=DataW.trod_string Tryz.underlying9 g0;obtain ⟨z,h1,e1,_⟩:=DataW.trod_int Tryz.underlying3 g1
 cases h0;cases h1
 subst e0;subst e1;simp only [List.map_cons,List.map_nil,DataW.agg.injEq,List.cons.injEq,DataW.lit.injEq,Lit.int.injEq,Lit.string.injEq,true_and,and_true] at hx;obtain ⟨hs,rfl⟩:=hx;rw [OY hs]
theorem Dz {α:Type} {k:Nat}:∀ (rows:List (List α)) (cs:List α),cs.length=rows.length*k→(∀ i r,rows[i]?=some r→(cs.drop (i*k)).take k=r)→cs=rows.flatten
 | [],cs,hl,_=>by
  simp at hl
  simpa using hl
 | r :: rows,cs,hl,h=>by
  have h0:=h 0 r rfl;simp only [Nat.zero_mul,bM] at h0
  have ih:=Dz rows (cs.drop k) (by rw [bC,hl,aH,Nat.add_mul,Nat.one_mul,gp]) (fun i r' hr=>by
   have:=h (i+1) r' (by simpa using hr);rw [List.drop_drop,show k+i*k=(i+1)*k by rw [Nat.add_mul,Nat.one_mul,Nat.add_comm]]
   exact this)
  rw [List.flatten_cons,← h0,← ih,List.take_append_drop]
theorem YZ {α:Type} {l:List α} (h:l.length=13):∃ x0 x1 x2 x3 x4 x5 x6 x7 x8 x9 x10 x11 x12,l=[x0,x1,x2,x3,x4,x5,x6,x7,x8,x9,x10,x11,x12]:=by
 match l,h with
 | [x0,x1,x2,x3,x4,x5,x6,x7,x8,x9,x10,x11,x12],_=>exact ⟨x0,x1,x2,x3,x4,x5,x6,x7,x8,x9,x10,x11,x12,rfl⟩
def abI:List (List Value):=(List.range 13).map fun i=>(o9.drop (i*2)).take 2
theorem SB {H:Type} {enc:TypeId × Value→H} {W:World} {held:Bool} {fuel:Nat} {cs:List Value} {x:DataW H × List MemPlace}
  (h:DataW.trod enc Tryz.prog W 0 (fun _=>true) held fuel 153 cs=some x) (hx:x.1=Rows.laid_bolthole_parse_marks):cs=o9:=by
 obtain ⟨xs,m,rfl,rfl,hcl,hxl,hel⟩:=DataW.trod_array Tryz.underlying153 h;rw [JQ] at hcl;rw [Dy] at hel;obtain ⟨x0,x1,x2,x3,x4,x5,x6,x7,x8,x9,x10,x11,x12,rfl⟩:=YZ hxl;simp only [Rows.laid_bolthole_parse_marks,List.map_cons,List.map_nil,DataW.agg.injEq,List.cons.injEq,and_true] at hx;obtain ⟨d0,d1,d2,d3,d4,d5,d6,d7,d8,d9,d10,d11,d12⟩:=hx;have r0:=mF (hel 0 (by omega)) d0;have r1:=mF (hel 1 (by omega)) d1;have r2:=mF (hel 2 (by omega)) d2;have r3:=mF (hel 3 (by omega)) d3;have r4:=mF (hel 4 (by omega)) d4;have r5:=mF (hel 5 (by omega)) d5;have r6:=mF (hel 6 (by omega)) d6;have r7:=mF (hel 7 (by omega)) d7;have r8:=mF (hel 8 (by omega)) d8;have r9:=mF (hel 9 (by omega)) d9;have r10:=mF (hel 10 (by omega)) d10;have r11:=mF (hel 11 (by omega)) d11;have r12:=mF (hel 12 (by omega)) d12;refine (Dz abI cs (k:=2) hcl (fun i r hr=>?_)).trans (by kernel_rfl);have hi:i<13:=(aL.1 hr).1
 by_cases e0:i=0
 ·subst e0
  exact r0.trans (bf hr)
 by_cases e1:i=1
 ·subst e1
  exact r1.trans (bf hr)
 by_cases e2:i=2
 ·subst e2
  exact r2.trans (bf hr)
 by_cases e3:i=3
 ·subst e3
  exact r3.trans (bf hr)
 by_cases e4:i=4
 ·subst e4
  exact r4.trans (bf hr)
 by_cases e5:i=5
 ·subst e5
  exact r5.trans (bf hr)
 by_cases e6:i=6
 ·subst e6
  exact r6.trans (bf hr)
 by_cases e7:i=7
 ·subst e7
  exact r7.trans (bf hr)
 by_cases e8:i=8
 ·subst e8
  exact r8.trans (bf hr)
 by_cases e9:i=9
 ·subst e9
  exact r9.trans (bf hr)
 by_cases e10:i=10
 ·subst e10
  exact r10.trans (bf hr)
 by_cases e11:i=11
 ·subst e11
  exact r11.trans (bf hr)
 by_cases e12:i=12
 ·subst e12
  exact r12.trans (bf hr)
 omega
theorem VB {W:World} {l:List (String × DataW Unit)} (hL:laidMet Tryz.prog l W) (hm:("bolthole/parse.marks",Rows.laid_bolthole_parse_marks)∈l):qH W:=by
 obtain ⟨g',t',cs,fuel,p,hg',ht',hv,hd⟩:=Lib.laidMet.reads hL hm;obtain rfl:=bf ((show Tryz.prog.globalNamed "bolthole/parse.marks"=some 2 by kernel_rfl).symm.trans hg');obtain rfl:=bf ((show (Tryz.prog.globals[2]?).map (·.type)=some 153 by kernel_rfl).symm.trans ht');have e:=SB hd rfl
 have hcell:dJ W 2 0 o9:=by
  intro j u hj;have hc:=World.var?_cell (P:=Tryz.prog) (show Tryz.prog.globalNamed "bolthole/parse.marks"=some 2 by kernel_rfl) hv j;rw [bA,hc,← Array.getElem?_toList,e]
  exact hj
 have h0:=hcell 0 _ rfl;have hlt:=aY W _ h0;refine ⟨hlt,?_,hcell⟩
 unfold World.cell? at h0
 cases ho:W.heap[2]? with
 | none=>rw [ho] at h0;cases h0
 | some o =>
  refine ⟨o,rfl,?_⟩;rw [ho] at h0
  cases o <;> first|rfl|(simp at h0)
end J
namespace Q
open Go.Lib Go.Proofs.YtojoahlpgmnbnaaGreatDoor.U Go.Proofs.YtojoahlpgmnbnaaGreatDoor.S
structure sG where
 f:Nat
 e:Nat
 d:Bool
 j:Bool
def ni (s:By) (a n:Nat):List Nat:=(List.range' a n).filter (yN s)
def hw (x:By):Bool:=!(fD (okB ⟨x.toArray⟩) x).isEmpty
def made (s:By) (f e:Nat):sG:=⟨f,e,yN s f,!yN s f&&hw ((s.drop f).take (e - f))⟩
def uY (s:By):Nat→List Nat→List sG
 | _,[]=>[]
 | f,c :: cs=>made s f c :: uY s c cs
def lV:Nat→List Nat→Nat
 | f,[]=>f
 | _,c :: cs=>lV c cs
def chain (s:By) (e f:Nat) (cs:List Nat):List sG:=uY s f cs++[made s (lV f cs) e]
def pieces (s:By):List sG:=chain s s.length 0 (ni s 1 (s.length - 1))
theorem OZ (s:By):∀ (A B:List Nat) (f:Nat),uY s f (A++B)=uY s f A++uY s (lV f A) B
 | [],_,_=>rfl
 | c :: A,B,f=>by simp only [bI,uY,lV,OZ s A B c]
theorem FE:∀ (A B:List Nat) (f:Nat),lV f (A++B)=lV (lV f A) B
 | [],_,_=>rfl
 | c :: A,B,f=>by simp only [bI,lV,FE A B c]
theorem FH (s:By):∀ (A:List Nat) (f:Nat),(uY s f A).length=A.length
 | [],_=>rfl
 | c :: A,f=>by simp only [uY,aH,FH s A c]
theorem O6 (s:By) (e f:Nat) (cs:List Nat):(chain s e f cs).length=cs.length+1:=by unfold chain;simp [FH]
theorem FI:∀ (A:List Nat) (f:Nat),lV f A=f∨lV f A∈A
 | [],_=>.inl rfl
 | c :: A,f=>by
  rcases FI A c with h|h
  ·exact .inr (by simp only [lV];rw [h];simp)
  ·exact .inr (by simp only [lV];exact aV _ h)
theorem Aw (s:By) (a n:Nat):ni s a (n+1)=if yN s a=true then a :: ni s (a+1) n else ni s (a+1) n:=by
 unfold ni
 rw [List.range'_succ,List.filter_cons]
theorem JR (s:By) (a m n:Nat):ni s a (m+n)=ni s a m++ni s (a+m) n:=by
 unfold ni
 rw [← List.filter_append,List.range'_append_1]
theorem wD {s:By} {a n c:Nat} (h:c∈ni s a n):a≤c∧c<a+n∧yN s c=true:=by
 unfold ni at h
 rw [List.mem_filter,List.mem_range'_1] at h
 exact ⟨h.1.1,h.1.2,h.2⟩
theorem VC (s:By) (a n:Nat):(ni s a n).Pairwise (·<·):=by
 unfold ni
 exact (List.pairwise_lt_range' (s:=a) (n:=n)).filter _
theorem O8 {v:By} (h:ng v=true):1≤v.length:=by
 cases v with
 | nil=>cases h
 | cons c r=>simp
def pI:Nat→List sG→Prop
 | _,[]=>True
 | a,p :: r=>p.f=a∧a≤p.e∧pI p.e r
def SC:Nat→List sG→Nat
 | a,[]=>a
 | _,p :: r=>SC p.e r
theorem Nv:∀ {l:List sG} {a:Nat},pI a l→a≤SC a l
 | [],_,_=>ae _
 | _ :: r,_,h=>aJ h.2.1 (Nv (l:=r) h.2.2)
theorem G8:∀ {l:List sG} {a:Nat},pI a l→∀ p∈l,a≤p.f∧p.f≤p.e∧p.e≤SC a l
 | [],_,_,p,hp=>by cases hp
 | q :: r,a,h,p,hp=>by
  rcases bB.1 hp with rfl|hp
  ·exact ⟨by rw [h.1];exact ae _,by rw [h.1];exact h.2.1,Nv (l:=r) h.2.2⟩
  ·have h1:=G8 (l:=r) h.2.2 p hp
   have:=h.2.1
   exact ⟨by omega,h1.2⟩
theorem FJ (s:By) (e:Nat):∀ (cs:List Nat) (f:Nat),(f :: cs).Pairwise (·<·)→(∀ c∈f :: cs,c≤e)→pI f (chain s e f cs)∧SC f (chain s e f cs)=e
 | [],f,_,h=>⟨⟨rfl,h f (by simp),trivial⟩,rfl⟩
 | c :: cs,f,hp,h=>by
  have hp2:=List.pairwise_cons.1 hp;obtain ⟨h1,h2⟩:=FJ s e cs c hp2.2 (fun x hx=>h x (aV _ hx))
  exact ⟨⟨rfl,eQ (hp2.1 c (by simp)),h1⟩,h2⟩
theorem uH (s:By):pI 0 (pieces s)∧SC 0 (pieces s)=s.length:=by
 refine FJ s s.length _ 0 ?_ ?_
 ·refine List.pairwise_cons.2 ⟨fun c hc=>?_,VC _ _ _⟩
  have:=(wD hc).1
  omega
 ·intro c hc
  rcases bB.1 hc with rfl|hc
  ·exact aM _
  ·have:=(wD hc).2.1;omega
end Q
namespace Ud
open Go.Lib Go.Proofs.YtojoahlpgmnbnaaGreatDoor.U Go.Proofs.YtojoahlpgmnbnaaGreatDoor.S Go.Proofs.YtojoahlpgmnbnaaGreatDoor.Q Go.Proofs.YtojoahlpgmnbnaaGreatDoor.T
open K (kS)
structure kD where
 f:Nat
 e:Nat
 tx:ByteArray
 p:Pt
 a:Int
 r:Int
def declT (t:ByteArray):Pt × Int × Int:=kS (fD (okB t) t.toList) t.size
def Pb (f e:Nat) (t:ByteArray):kD:=⟨f,e,t,(declT t).1,(declT t).2.1,(declT t).2.2⟩
def L9 (s:ByteArray) (q:sG):kD:=Pb q.f q.e (s.extract q.f q.e)
def decls (s:ByteArray):List kD:=((pieces s.toList).filter (·.d)).map (L9 s)
def wE (s:ByteArray):List (Nat × Nat):=((pieces s.toList).filter (·.j)).map fun q=>(q.f,q.e)
def mG (l:List kD):List ByteArray:=l.map (·.tx)
def Y0 (g:Nat→Bool) (k n:Nat):Prop:=n≤k∧(∀ i,i<n→g i=true)∧(n=k∨g n=false)
def cnt (g:Nat→Bool):Nat→Nat→Nat
 | 0,i=>i
 | k+1,i=>if g i=true then cnt g k (i+1) else i
theorem Cn (g:Nat→Bool):∀ (k i:Nat),(∀ j,j<i→g j=true)→Y0 g (k+i) (cnt g k i)
 | 0,i,h=>⟨by rw [cnt];omega,by rw [cnt];exact h,.inl (by rw [cnt];omega)⟩
 | k+1,i,h=>by
  rw [cnt]
  by_cases hg:g i=true
  ·rw [au hg]
   have:=Cn g k (i+1) (fun j hj=>by
    by_cases h1:j<i
    ·exact h j h1
    ·rw [show j=i by omega];exact hg)
   rw [show k+1+i=k+(i+1) by omega]
   exact this
  ·rw [ai hg]
   exact ⟨by omega,h,.inr (by simpa using hg)⟩
theorem Y0.one {g:Nat→Bool} {k n m:Nat} (h:Y0 g k n) (h':Y0 g k m):n=m:=by
 obtain ⟨h1,h2,h3⟩:=h;obtain ⟨k1,k2,k3⟩:=h'
 rcases Nat.lt_trichotomy n m with hl|hl|hl
 ·have:=k2 n hl
  rcases h3 with h3|h3
  ·omega
  ·rw [this] at h3;cases h3
 ·exact hl
 ·have:=h2 m hl
  rcases k3 with k3|k3
  ·omega
  ·rw [this] at k3;cases k3
def gH (A B:List ByteArray) (i:Nat):Bool:=decide (A[i]?=B[i]?)
def gT (A B:List ByteArray) (i:Nat):Bool:=decide (A[A.length - 1 - i]?=B[B.length - 1 - i]?)
def nk (A B:List ByteArray):Nat:=cnt (gH A B) (min A.length B.length) 0
def mI (A B:List ByteArray):Nat:=cnt (gT A B) (min A.length B.length - nk A B) 0
def qm (A B:List ByteArray):Nat:=nk A B+mI A B
theorem tV (A B:List ByteArray):Y0 (gH A B) (min A.length B.length) (nk A B):=Cn _ _ 0 (fun _ h=>absurd h (aS _))
theorem wF (A B:List ByteArray):Y0 (gT A B) (min A.length B.length - nk A B) (mI A B):=Cn _ _ 0 (fun _ h=>absurd h (aS _))
theorem Nw (A B:List ByteArray) (i:Nat):gH A B i=gH B A i:=by unfold gH;exact decide_eq_decide.2 eq_comm
theorem Ny (A B:List ByteArray) (i:Nat):gT A B i=gT B A i:=by unfold gT;exact decide_eq_decide.2 eq_comm
theorem Co (A B:List ByteArray):nk A B+mI A B≤min A.length B.length:=by
 have h:=(tV A B).1;have k:=(wF A B).1
 omega
def key (s:ByteArray) (q:sG):Bool × ByteArray:=(q.d,s.extract q.f q.e)
theorem jP (l:List kD):(mG l).length=l.length:=fM _
theorem Pd (s:ByteArray):(decls s).length≤(pieces s.toList).length:=by unfold decls;rw [fM];exact List.length_filter_le _ _
theorem pJ (s:By):(pieces s).length≤s.length+1:=by
 unfold pieces
 rw [O6]
 have h:(ni s 1 (s.length - 1)).length≤s.length - 1:=by unfold ni;exact aJ (List.length_filter_le _ _) (by simp)
 omega
end Ud
namespace J
open Go.RowKit
open Go.Lib hiding intOf
open U S T
theorem wC {W:World} {b:Nat} {t:TypeId} {u0 u1 u2 u3 u4:Value} (v0 v1 v2 v3 v4:Value) (h:W.heap[b]?=some (.cells #[u0,u1,u2,u3,u4] t (0,0))) :
  ∃ W',((((W.setCell ⟨b,0,none⟩ v0).setCell ⟨b,1,none⟩ v1).setCell ⟨b,2,none⟩ v2).setCell ⟨b,3,none⟩ v3).setCell ⟨b,4,none⟩ v4=W'∧W'.heap[b]?=some (.cells #[v0,v1,v2,v3,v4] t (0,0))∧(∀ k,k≠b→W'.heap[k]?=W.heap[k]?)∧∀ B,B≤b→Below B W W':=by
 have s0:(W.setCell ⟨b,0,none⟩ v0).heap[b]?=some (.cells #[v0,u1,u2,u3,u4] t (0,0)):=ay h v0;have s1:((W.setCell ⟨b,0,none⟩ v0).setCell ⟨b,1,none⟩ v1).heap[b]?=some (.cells #[v0,v1,u2,u3,u4] t (0,0)):=ay s0 v1;have s2:(((W.setCell ⟨b,0,none⟩ v0).setCell ⟨b,1,none⟩ v1).setCell ⟨b,2,none⟩ v2).heap[b]?=some (.cells #[v0,v1,v2,u3,u4] t (0,0)):=ay s1 v2;have s3:((((W.setCell ⟨b,0,none⟩ v0).setCell ⟨b,1,none⟩ v1).setCell ⟨b,2,none⟩ v2).setCell ⟨b,3,none⟩ v3).heap[b]?=some (.cells #[v0,v1,v2,v3,u4] t (0,0)):=ay s2 v3;have s4:(((((W.setCell ⟨b,0,none⟩ v0).setCell ⟨b,1,none⟩ v1).setCell ⟨b,2,none⟩ v2).setCell ⟨b,3,none⟩ v3).setCell ⟨b,4,none⟩ v4).heap[b]?=some (.cells #[v0,v1,v2,v3,v4] t (0,0)):=ay s3 v4
 have pX:∀ k,k≠b→(((((W.setCell ⟨b,0,none⟩ v0).setCell ⟨b,1,none⟩ v1).setCell ⟨b,2,none⟩ v2).setCell ⟨b,3,none⟩ v3).setCell ⟨b,4,none⟩ v4).heap[k]?=W.heap[k]?:=fun k hk =>
  (aj _ _ _ _ hk).trans ((aj _ _ _ _ hk).trans ((aj _ _ _ _ hk).trans ((aj _ _ _ _ hk).trans (aj _ _ _ _ hk))))
 have b1:∀ B,B≤b→∀ (X:World) (j:Nat) (v:Value),Below B X (X.setCell ⟨b,j,none⟩ v):=fun B hB X j v=>⟨rfl,rfl,rfl,by simp,fun k hk=>aj _ _ _ _ (by show k≠b;omega)⟩
 exact ⟨_,rfl,s4,pX,fun B hB=>((((b1 B hB _ _ _).trans (b1 B hB _ _ _)).trans (b1 B hB _ _ _)).trans (b1 B hB _ _ _)).trans (b1 B hB _ _ _)⟩
theorem FK {w:World} {a:Option Addr} {n c:Nat} {xs:List Value} (hc:n=0∨∃ g off,a=some ⟨g,off,none⟩∧dJ w g off xs) (hl:xs.length=n*5) (hone:∀ u∈xs,u.oneCell'=true) (hw:n≤1099511627776) :
  Calls Tryz.prog 54 #[.slice a n c] w fun e w'=>∃ v',e=.returned v'∧w'.ownsRow w.heap.size 49 5 v' n xs∧Below w.heap.size w w':=by
 obtain ⟨iP,hi0,hz0,hz1,hz2⟩:=eB y8
 have q22:∀ (w:World) (a:Option Addr) (n c n' c':Nat),(binOp .eql 47 (.slice a n c) (.slice none n' c')).run Tryz.prog w=.ok (.bool a.isNone) w:=fun w a n c n' c'=>Lib.run_eql_slice_nil w _ _ a n c n' c' Tryz.underlying47
 have HC:=hid hc;have HL:=hid hl;have HO:=hid hone;clear hc hl hone
 cases a with
 | none =>
  have h0:n=0:=by
   rcases HC.out with h|⟨g,off,h,_⟩
   ·exact h
   ·cases h
  subst h0;have hx:xs=[]:=eF (by have:=HL.out;omega);subst hx
  go_enter Tryz.func54,Tryz.ntmps54
  go_wp2_with fail
  go_ret
  exact ⟨_,rfl,dB _ _ _ _,ah _ _⟩
 | some ad =>
  go_enter Tryz.func54,Tryz.ntmps54
  have hcb:∀ X,Below w.heap.size w X→(n=0∨∃ g off,some ad=some ⟨g,off,none⟩∧dJ X g off xs):=fun X hX=>HC.out.imp id (fun ⟨g,off,h1,h2⟩=>⟨g,off,h1,fun j u hj=>(hX.cell (aY w _ (h2 j u hj))).trans (h2 j u hj)⟩)
  have HCB:=hid hcb;clear hcb
  go_wp2_with (at_builtin;refine oG rfl _ _ 47 rfl w.heap.size 49 iP _ 5 72 Tryz.underlying47 hi0 hz0 hz1 hz2 rfl (by decide) _ 0 [] rfl (World.ownsRow_made w #[] 0 (ae _) (aM _) rfl) _ n c xs rfl HL.out (HCB.out _ ((ah _ _).alloc (ae _) _)) HO.out (by unfold maxLen;omega) (by omega) (by simp) ?_)
  intro v' w1 bP aN _;have hb:Below w.heap.size w w1:=((ah _ w).alloc (ae _) (.cells #[] 49)).grown aN (by simp) (by intro k hk;simp [Value.ownBlock] at hk;omega);have Y1:Hid (w1.ownsRow w.heap.size 49 5 v' n xs):=hid (by simpa using bP);have HB:=hid hb;clear bP aN hb
  go_wp2_with fail
  go_ret
  exact ⟨v',rfl,Y1.out,HB.out⟩
def moved (f e x KF:Int):Int:=if f=0∧e=0 then x else wrap64 (x+KF)
mutual
def lW (KF:Int):Pt→Pt
 | .mk k t f e ks=>.mk k t (moved f e f KF) (moved f e e KF) (kX KF ks)
def kX (KF:Int):List Pt→List Pt
 | []=>[]
 | p :: r=>lW KF p :: kX KF r
end
theorem uI (b:Int):∀ l,kX b l=l.map (lW b)
 | []=>rfl
 | p :: r=>by rw [kX,uI b r];rfl
theorem ll (b:Int) (l:List Pt):(kX b l).length=l.length:=by rw [uI,fM]
theorem JS (b:Int) (l:List Pt) (p:Pt):kX b (l++[p])=kX b l++[lW b p]:=by rw [uI,uI,List.map_append];rfl
theorem pK (b:Int) {l:List Pt} {i:Nat} (h:i<l.length):kX b (l.take (i+1))=kX b (l.take i)++[lW b l[i]]:=by
 rw [dC h,JS]
mutual
def zn:Pt→Pt→Bool
 | .mk k t f e ks,.mk k' t' f' e' ks'=>k==k'&&t==t'&&f==f'&&e==e'&&lX ks ks'
def lX:List Pt→List Pt→Bool
 | [],[]=>true
 | p :: r,p' :: r'=>zn p p'&&lX r r'
 | _,_=>false
end
mutual
theorem FL:∀ p q,zn p q=true ↔ p=q
 | .mk k t f e ks,.mk k' t' f' e' ks'=>by
  rw [zn];simp only [ic,beq_iff_eq,Pt.mk.injEq,DC ks ks']
  constructor
  ·rintro ⟨⟨⟨⟨h1,h2⟩,h3⟩,h4⟩,h5⟩;exact ⟨h1,h2,h3,h4,h5⟩
  ·rintro ⟨h1,h2,h3,h4,h5⟩;exact ⟨⟨⟨⟨h1,h2⟩,h3⟩,h4⟩,h5⟩
theorem DC:∀ a b,lX a b=true ↔ a=b
 | [],[]=>by simp [lX]
 | [],_ :: _=>by simp [lX]
 | _ :: _,[]=>by simp [lX]
 | p :: r,p' :: r'=>by
  rw [lX,ic,FL p p',DC r r',List.cons.injEq]
end
theorem Pe (p:Pt):zn p p=true:=(FL p p).2 rfl
theorem JU {l l':List Pt} {i:Nat} (h:i<l.length) (h':i<l'.length):lX (l.drop i) (l'.drop i)=(zn l[i] l'[i]&&lX (l.drop (i+1)) (l'.drop (i+1))):=by
 rw [bY h,bY h',lX]
theorem DD:∀ {l l':List Pt},l.length≠l'.length→lX l l'=false
 | [],[],h=>absurd rfl h
 | [],_ :: _,_=>by simp [lX]
 | _ :: _,[],_=>by simp [lX]
 | p :: r,p' :: r',h=>by
  have:=@DD r r' (by simpa using h)
  simp [lX,this]
theorem SE {a b:By}:aX a=aX b ↔ a=b:=by
 constructor
 ·intro h
  have:=congrArg (fun x:ByteArray=>x.data.toList) h
  simpa [aX] using this
 ·intro h;rw [h]
theorem lq (a:By):(aX a).toList=a:=by rw [bg];simp [aX]
def abJ (p:Pt):Prop:=∀ (q:Pt) (lv CQ:Value) (R R':Nat→Prop) (w:World),aU w R p lv→aU w R' q CQ→sM p≤1099511627776→sM q≤1099511627776 →
 Calls Tryz.prog 24 #[arg p lv,arg q CQ] w fun e w'=>e=.returned (.bool (zn p q))∧Below w.heap.size w w'
theorem qP (w:World) (o1 o2:Obj):∃ w1,(w.alloc o1).alloc o2=w1∧w1.heap[w.heap.size]?=some o1∧w1.heap[w.heap.size+1]?=some o2∧Below w.heap.size w w1∧w.heap.size+1<w1.heap.size:=by
 have s1:(w.alloc o1).heap.size=w.heap.size+1:=by simp
 refine ⟨_,rfl,?_,?_,((ah _ _).alloc (ae _) _).alloc (by omega) _,by simp⟩
 ·rw [dw _ _ _ (by omega)];exact fI w o1
 ·rw [← s1];exact fI _ o2
theorem Pf (w:World) (o1 o2 o3:Obj):∃ w1,((w.alloc o1).alloc o2).alloc o3=w1∧w1.heap[w.heap.size]?=some o1∧w1.heap[w.heap.size+1]?=some o2∧w1.heap[w.heap.size+1+1]?=some o3∧Below w.heap.size w w1∧w.heap.size+1+1<w1.heap.size:=by
 obtain ⟨w2,h1,h2,h3,h4,h5⟩:=qP w o1 o2
 have hs:w2.heap.size=w.heap.size+1+1:=by rw [← h1];simp
 refine ⟨_,rfl,?_,?_,?_,?_,?_⟩
 ·rw [h1,dw _ _ _ (by omega)];exact h2
 ·rw [h1,dw _ _ _ (by omega)];exact h3
 ·rw [h1,← hs];exact fI _ _
 ·rw [h1];exact h4.alloc (by omega) _
 ·rw [h1];simp;omega
theorem SF:∀ p,abJ p:=Pt.ind fun k t f e ks IH=>fun
 | .mk k' t' f' e' ks',lv,CQ,R,R',w,hv,hv',hw,hw'=>by
  obtain ⟨a,c,rfl⟩:=eD hv;obtain ⟨a',c',rfl⟩:=eD hv';obtain ⟨_,_,hrow⟩:=mZ hv;obtain ⟨_,_,hrow'⟩:=mZ hv';have HR:=hid hrow;have SG:=hid hrow';have SH:=hid IH;rw [sM] at hw hw';have hlb:ks.length≤1099511627776:=aJ (lU ks) (by omega);have aft:ks'.length≤1099511627776:=aJ (lU ks') (by omega);have Qe:=hid (fun v (h:v∈ks)=>aJ (xk h) (show oN ks≤1099511627776 by omega));have afu:=hid (fun v (h:v∈ks')=>aJ (xk h) (show oN ks'≤1099511627776 by omega));obtain ⟨n,hn⟩:∃ n,ks.length=n:=⟨_,rfl⟩;obtain ⟨n',hn'⟩:∃ n,ks'.length=n:=⟨_,rfl⟩;have HN:=hid hn;have HN':=hid hn';rw [hn] at hlb;rw [hn'] at aft;obtain ⟨kb,hkb⟩:∃ x,aX k=x:=⟨_,rfl⟩;obtain ⟨tb,htb⟩:∃ x,aX t=x:=⟨_,rfl⟩;obtain ⟨kb',hkb'⟩:∃ x,aX k'=x:=⟨_,rfl⟩;obtain ⟨tb',Pg⟩:∃ x,aX t'=x:=⟨_,rfl⟩
  have hkk:(kb.toList==kb'.toList)=(k==k'):=by rw [← hkb,← hkb',lq,lq]
  have Yp:(tb.toList==tb'.toList)=(t==t'):=by rw [← htb,← Pg,lq,lq]
  obtain ⟨b,hb⟩:∃ b,zn (.mk k t f e ks) (.mk k' t' f' e' ks')=b:=⟨_,rfl⟩;rw [hb];rw [zn] at hb;simp only [arg,five];rw [hn,hn',hkb,htb,hkb',Pg];clear hv hv' hrow hrow' IH hw hw' hn hn';obtain ⟨b1,hb1⟩:∃ b1,(k==k')=b1:=⟨_,rfl⟩;rw [hb1] at hkk hb
  cases b1 with
  | false =>
   simp only [Bool.false_and] at hb;subst hb;have HFin:Hid (Below w.heap.size w ((w.alloc (.cells #[.string kb,.string tb,.int .i64 f,.int .i64 e,.slice a n c] 49)).alloc (.cells #[.string kb',.string tb',.int .i64 f',.int .i64 e',.slice a' n' c'] 49))):=hid (((ah _ _).alloc (ae _) _).alloc (by simp) _);clear Yp hb1 hkb htb hkb' Pg
   go_enter Tryz.func24,Tryz.ntmps24
   go_wp2_with fail
   go_ret
   exact ⟨rfl,HFin.out⟩
  | true =>
  obtain rfl:kb=kb':=hkb.symm.trans ((congrArg aX (show k=k' by simpa using hb1)).trans hkb');clear hkk;obtain ⟨b2,hb2⟩:∃ b2,(t==t')=b2:=⟨_,rfl⟩;rw [hb2] at Yp hb
  cases b2 with
  | false =>
   simp only [Bool.true_and,Bool.false_and] at hb;subst hb;have HFin:Hid (Below w.heap.size w ((w.alloc (.cells #[.string kb,.string tb,.int .i64 f,.int .i64 e,.slice a n c] 49)).alloc (.cells #[.string kb,.string tb',.int .i64 f',.int .i64 e',.slice a' n' c'] 49))):=hid (((ah _ _).alloc (ae _) _).alloc (by simp) _);clear hb1 hb2 hkb htb hkb' Pg
   go_enter Tryz.func24,Tryz.ntmps24
   go_wp2_with fail
   go_ret
   exact ⟨rfl,HFin.out⟩
  | true =>
  obtain rfl:tb=tb':=htb.symm.trans ((congrArg aX (show t=t' by simpa using hb2)).trans Pg);clear Yp hkb htb hkb' Pg;have HFin:Hid (Below w.heap.size w ((w.alloc (.cells #[.string kb,.string tb,.int .i64 f,.int .i64 e,.slice a n c] 49)).alloc (.cells #[.string kb,.string tb,.int .i64 f',.int .i64 e',.slice a' n' c'] 49))):=hid (((ah _ _).alloc (ae _) _).alloc (by simp) _)
  by_cases hf:f=f'
  case neg =>
   have e1:(f==f')=false:=by simpa using hf
   have e2:(f != f')=true:=by simpa using hf
   rw [e1] at hb;simp only [Bool.true_and,Bool.false_and] at hb;subst hb;clear hb1 hb2 hf
   go_enter Tryz.func24,Tryz.ntmps24
   go_wp2_with fail
   go_ret
   exact ⟨rfl,HFin.out⟩
  subst hf
  by_cases he:e=e'
  case neg =>
   have e1:(e==e')=false:=by simpa using he
   have e2:(e != e')=true:=by simpa using he
   rw [e1] at hb;simp only [beq_self_eq_true,Bool.true_and,Bool.false_and] at hb;subst hb;clear hb1 hb2 he
   go_enter Tryz.func24,Tryz.ntmps24
   go_wp2_with fail
   go_ret
   exact ⟨rfl,HFin.out⟩
  subst he;simp only [beq_self_eq_true,Bool.true_and] at hb
  by_cases hl:n=n'
  case neg =>
   rw [DD (by rw [HN.out,HN'.out];exact hl)] at hb;subst hb
   have e1:((n:Int)==(n':Int))=false:=by simp;omega
   clear hb1 hb2
   go_enter Tryz.func24,Tryz.ntmps24
   go_wp2_with fail
   go_ret
   exact ⟨rfl,HFin.out⟩
  subst hl;have HF:=hid (show lX (ks.drop 0) (ks'.drop 0)=b from hb);clear hb hb1 hb2 HFin
  go_enter Tryz.func24,Tryz.ntmps24
  go_wp2_with fail
  obtain ⟨w1,hw1,hq1,hr1,Av,hz1⟩:=qP w (.cells #[.string kb,.string tb,.int .i64 f,.int .i64 e,.slice a n c] 49) (.cells #[.string kb,.string tb,.int .i64 f,.int .i64 e,.slice a' n c'] 49);rw [hw1];have jC:=hid hq1;have HR1:=hid hr1;have HB1:=hid Av;clear hw1 hq1 hr1 Av
  go_loopw [5] (fun iv wr=>∃ i:Nat,iv=.int .i64 i∧i≤n∧Hid (lX (ks.drop i) (ks'.drop i)=b)∧Hid (Below w1.heap.size w1 wr)) (fun iv _=>n - (Go.RowKit.intOf iv).toNat)
  case atStart=>exact ⟨0,rfl,aM _,HF,hid (ah _ _)⟩
  case round =>
   obtain ⟨i,rfl,hi,HI,HB⟩:=hrel;have hq:=(HB.out.block w.heap.size (by omega)).trans jC.out;have hr:=(HB.out.block (w.heap.size+1) hz1).trans HR1.out;obtain ⟨⟨k0,k1,k2,k3,k4⟩,kf⟩:=bZ hq;obtain ⟨⟨l0,l1,l2,l3,l4⟩,lf⟩:=bZ hr;have hz2:=HB.out.size;clear hq hr
   by_cases hlt:i<n
   ·have hll:i<ks.length:=by rw [HN.out];exact hlt
    have SI:i<ks'.length:=by rw [HN'.out];exact hlt
    obtain ⟨g,off,xs,rfl,hg,hc,hp⟩:=HR.out.resolve_left (fun h=>by rw [h] at hll;exact aS _ hll);obtain ⟨g',off',xs',rfl,hg',hc',hp'⟩:=SG.out.resolve_left (fun h=>by rw [h] at SI;exact aS _ SI);have hb0:Below w.heap.size w wr:=HB1.out.trans (HB.out.mono HB1.out.size);obtain ⟨kk,tt,ff,ee,IE,aa,cc,hK⟩:=Aq hp hc i hll;obtain ⟨kk',tt',ff',ee',Y2,IG,II,hK'⟩:=Aq hp' hc' i SI;have hK:=hK.below hb0;have hK':=hK'.below hb0;have hI:=HI.out;rw [JU hll SI] at hI;obtain ⟨b',hb'⟩:∃ b',zn ks[i] ks'[i]=b':=⟨_,rfl⟩
    have cP:=fun X (hX:Below wr.heap.size wr X)=>(SH.out ks[i] (bG hll)) ks'[i] (.slice aa IE.length cc) (.slice IG Y2.length II) R R' X (by rw [hK.eq];exact dE hK.kids hX) (by rw [hK'.eq];exact dE hK'.kids hX) (Qe.out _ (bG hll)) (afu.out _ (bG SI))
    rw [hb'] at hI cP;simp only [hK.eq,hK'.eq,arg,five] at cP;have HI2:=hid hI;have j0:=hK.k0;have j1:=hK.k1;have j2:=hK.k2;have j3:=hK.k3;have j4:=hK.k4;have m0:=hK'.k0;have m1:=hK'.k1;have m2:=hK'.k2;have m3:=hK'.k3;have m4:=hK'.k4;obtain ⟨y0,hy0⟩:∃ x,aX kk=x:=⟨_,rfl⟩;obtain ⟨y1,hy1⟩:∃ x,aX tt=x:=⟨_,rfl⟩;obtain ⟨y2,hy2⟩:∃ x,aX kk'=x:=⟨_,rfl⟩;obtain ⟨y3,hy3⟩:∃ x,aX tt'=x:=⟨_,rfl⟩;obtain ⟨z0,hz0⟩:∃ x,IE.length=x:=⟨_,rfl⟩;obtain ⟨z1,hz1'⟩:∃ x,Y2.length=x:=⟨_,rfl⟩;rw [hy0] at j0 cP;rw [hy1] at j1 cP;rw [hy2] at m0 cP;rw [hy3] at m1 cP;rw [hz0] at j4 cP;rw [hz1'] at m4 cP
    have hi0:(0:Int)≤(i:Int):=by omega
    have hi1:(i:Int)<(n:Int):=by omega
    clear hI hb' hc hp hc' hp' hK hK' hb0 HI hy0 hy1 hy2 hy3 hz0 hz1'
    go_upto_region 6 with fail
    have cl:∀ {X:World} {b o:Nat} {v:Value},Below wr.heap.size wr X→wr.cell? ⟨b,o,none⟩=some v→X.cell? ⟨b,o,none⟩=some v:=fun hX h=>(hX.cell (aY wr _ h)).trans h
    have hS:∀ X,Below wr.heap.size wr X→Below wr.heap.size wr X∧X.cell? ⟨w.heap.size,4,none⟩=some (.slice (some ⟨g,off,none⟩) n c)∧X.cell? ⟨w.heap.size+1,4,none⟩=some (.slice (some ⟨g',off',none⟩) n c')∧X.cell? ⟨g,off+i*5,none⟩=some (.string y0)∧X.cell? ⟨g,off+i*5+1,none⟩=some (.string y1)∧X.cell? ⟨g,off+i*5+2,none⟩=some (.int .i64 ff)∧X.cell? ⟨g,off+i*5+3,none⟩=some (.int .i64 ee)∧X.cell? ⟨g,off+i*5+4,none⟩=some (.slice aa z0 cc)∧X.cell? ⟨g',off'+i*5,none⟩=some (.string y2)∧X.cell? ⟨g',off'+i*5+1,none⟩=some (.string y3)∧X.cell? ⟨g',off'+i*5+2,none⟩=some (.int .i64 ff')∧X.cell? ⟨g',off'+i*5+3,none⟩=some (.int .i64 ee')∧X.cell? ⟨g',off'+i*5+4,none⟩=some (.slice IG z1 II):=fun X h=>⟨h,cl h k4,cl h l4,cl h j0,cl h j1,cl h j2,cl h j3,cl h j4,cl h m0,cl h m1,cl h m2,cl h m3,cl h m4⟩
    obtain ⟨d0,d1,d2,d3,d4,d5,d6,d7,d8,d9,d10,d11,d12⟩:=hS wr.drew (ah _ _).drew
    have cS:∀ X,(Below wr.heap.size wr X∧X.cell? ⟨w.heap.size,4,none⟩=some (.slice (some ⟨g,off,none⟩) n c)∧X.cell? ⟨w.heap.size+1,4,none⟩=some (.slice (some ⟨g',off',none⟩) n c')∧X.cell? ⟨g,off+i*5,none⟩=some (.string y0)∧X.cell? ⟨g,off+i*5+1,none⟩=some (.string y1)∧X.cell? ⟨g,off+i*5+2,none⟩=some (.int .i64 ff)∧X.cell? ⟨g,off+i*5+3,none⟩=some (.int .i64 ee)∧X.cell? ⟨g,off+i*5+4,none⟩=some (.slice aa z0 cc)∧X.cell? ⟨g',off'+i*5,none⟩=some (.string y2)∧X.cell? ⟨g',off'+i*5+1,none⟩=some (.string y3)∧X.cell? ⟨g',off'+i*5+2,none⟩=some (.int .i64 ff')∧X.cell? ⟨g',off'+i*5+3,none⟩=some (.int .i64 ee')∧X.cell? ⟨g',off'+i*5+4,none⟩=some (.slice IG z1 II))→Calls Tryz.prog 24 #[.agg #[.string y0,.string y1,.int .i64 ff,.int .i64 ee,.slice aa z0 cc],.agg #[.string y2,.string y3,.int .i64 ff',.int .i64 ee',.slice IG z1 II]] X fun e w'=>e=.returned (.bool b')∧Below wr.heap.size wr w'∧w'.cell? ⟨w.heap.size,4,none⟩=some (.slice (some ⟨g,off,none⟩) n c)∧w'.cell? ⟨w.heap.size+1,4,none⟩=some (.slice (some ⟨g',off',none⟩) n c')∧w'.cell? ⟨g,off+i*5,none⟩=some (.string y0)∧w'.cell? ⟨g,off+i*5+1,none⟩=some (.string y1)∧w'.cell? ⟨g,off+i*5+2,none⟩=some (.int .i64 ff)∧w'.cell? ⟨g,off+i*5+3,none⟩=some (.int .i64 ee)∧w'.cell? ⟨g,off+i*5+4,none⟩=some (.slice aa z0 cc)∧w'.cell? ⟨g',off'+i*5,none⟩=some (.string y2)∧w'.cell? ⟨g',off'+i*5+1,none⟩=some (.string y3)∧w'.cell? ⟨g',off'+i*5+2,none⟩=some (.int .i64 ff')∧w'.cell? ⟨g',off'+i*5+3,none⟩=some (.int .i64 ee')∧w'.cell? ⟨g',off'+i*5+4,none⟩=some (.slice IG z1 II):=fun X hX=>(cP X hX.1).mono (fun e w' h=>⟨h.1,hS w' (hX.1.trans (h.2.mono hX.1.size))⟩)
    have HS:=hid hS;clear hS cl cP k0 k1 k2 k3 k4 kf l0 l1 l2 l3 l4 lf j0 j1 j2 j3 j4 m0 m1 m2 m3 m4
    go_region_held3 (fun X=>Below wr.heap.size wr X∧X.cell? ⟨w.heap.size,4,none⟩=some (.slice (some ⟨g,off,none⟩) n c)∧X.cell? ⟨w.heap.size+1,4,none⟩=some (.slice (some ⟨g',off',none⟩) n c')∧X.cell? ⟨g,off+i*5,none⟩=some (.string y0)∧X.cell? ⟨g,off+i*5+1,none⟩=some (.string y1)∧X.cell? ⟨g,off+i*5+2,none⟩=some (.int .i64 ff)∧X.cell? ⟨g,off+i*5+3,none⟩=some (.int .i64 ee)∧X.cell? ⟨g,off+i*5+4,none⟩=some (.slice aa z0 cc)∧X.cell? ⟨g',off'+i*5,none⟩=some (.string y2)∧X.cell? ⟨g',off'+i*5+1,none⟩=some (.string y3)∧X.cell? ⟨g',off'+i*5+2,none⟩=some (.int .i64 ff')∧X.cell? ⟨g',off'+i*5+3,none⟩=some (.int .i64 ee')∧X.cell? ⟨g',off'+i*5+4,none⟩=some (.slice IG z1 II)) (with_reducible (repeat (first|assumption|refine And.intro ?_ ?_))) (first|(with_reducible refine (cS _ ?_).mono ?_;(with_reducible (repeat (first|assumption|refine And.intro ?_ ?_)));rintro e w2 ⟨rfl,hS2⟩))
    have HB2:=hid (HB.out.trans (hS2.1.mono hz2));clear hS2 cS d0 d1 d2 d3 d4 d5 d6 d7 d8 d9 d10 d11 d12
    cases b' with
    | false =>
     have hI:=HI2.out;rw [Bool.false_and] at hI;subst hI
     go_wp2_with fail
     go_ret
     exact ⟨rfl,HB1.out.trans (HB2.out.mono HB1.out.size)⟩
    | true =>
     have hI:=HI2.out;rw [Bool.true_and] at hI;have HI3:=hid hI;clear hI HI2
     go_wp2_with fail
     go_roundw
     case rel=>exact ⟨i+1,by go_num,by omega,HI3,HB2⟩
     case measure=>simp [Go.RowKit.intOf];omega
   ·obtain rfl:i=n:=by omega
    have hI:=HI.out;rw [List.drop_eq_nil_of_le (by rw [HN.out];exact ae _),List.drop_eq_nil_of_le (by rw [HN'.out];exact ae _),lX] at hI;subst hI;clear HI
    go_wp2_with fail
    go_ret
    exact ⟨rfl,HB1.out.trans (HB.out.mono HB1.out.size)⟩
theorem DF:∀ (a:List Pt) (p:Pt),iL (a++[p])=max (iL a) (deep p)
 | [],p=>by rw [fw,iL,iL,iL];omega
 | x :: r,p=>by rw [bI,iL,iL,DF r p];omega
mutual
theorem VD:∀ p,deep p≤sM p
 | .mk k t f e ks=>by have:=DI ks;rw [deep,sM];omega
theorem DI:∀ l,iL l≤oN l
 | []=>by rw [iL];exact aM _
 | p :: r=>by have:=VD p;have:=DI r;rw [iL,oN];omega
end
def abL (p:Pt):Prop:=∀ (lv:Value) (R:Nat→Prop) (w:World),aU w R p lv→sM p≤1099511627776 →
 Calls Tryz.prog 45 #[arg p lv] w fun e w'=>e=.returned (.int .i64 (deep p))∧Below w.heap.size w w'
theorem qo:∀ p,abL p:=Pt.ind fun k t f e ks IH lv R w hv hw=>by
 obtain ⟨a,c,rfl⟩:=eD hv;obtain ⟨_,hcap,hrow⟩:=mZ hv;have HR:=hid hrow;have SH:=hid IH;rw [sM] at hw;have hlb:ks.length≤1099511627776:=aJ (lU ks) (by omega);have Qe:=hid (fun v (h:v∈ks)=>aJ (xk h) (show oN ks≤1099511627776 by omega));have HDW:=hid (show iL ks≤1099511627776 by have:=DI ks;omega)
 have hD:deep (.mk k t f e ks)=iL ks+1:=by rw [deep]
 rw [hD];obtain ⟨n,hn⟩:∃ n,ks.length=n:=⟨_,rfl⟩;have HN:=hid hn;simp only [arg,five];rw [hn];rw [hn] at hlb;obtain ⟨kb,hkb⟩:∃ x,aX k=x:=⟨_,rfl⟩;obtain ⟨tb,htb⟩:∃ x,aX t=x:=⟨_,rfl⟩;rw [hkb,htb];clear hv hrow IH hw hn hcap hkb htb hD
 go_enter Tryz.func45,Tryz.ntmps45
 go_wp2_with fail
 obtain ⟨w1,hw1,hq1,hb1,hz1⟩:=gY w (.cells #[.string kb,.string tb,.int .i64 f,.int .i64 e,.slice a n c] 49);rw [hw1];have jC:=hid hq1;have HB1:=hid hb1;clear hq1 hb1 hw1
 go_loopw [3,4] (fun mv iv wr=>∃ i m:Nat,iv=.int .i64 i∧mv=.int .i64 m∧i≤n∧Hid (m=iL (ks.take i))∧Hid (Below w1.heap.size w1 wr)) (fun _ iv _=>n - (Go.RowKit.intOf iv).toNat)
 case atStart=>exact ⟨0,0,rfl,rfl,aM _,hid (by rw [List.take_zero,iL]),hid (ah _ _)⟩
 case round =>
  obtain ⟨i,m,rfl,rfl,hi,HM,HB⟩:=hrel;have hq:=(HB.out.block w.heap.size hz1).trans jC.out;obtain ⟨⟨k0,k1,k2,k3,k4⟩,kf⟩:=bZ hq;have hz2:=HB.out.size;clear hq
  by_cases hlt:i<n
  ·have hll:i<ks.length:=by rw [HN.out];exact hlt
   obtain ⟨g,off,xs,rfl,hg,hc,hp⟩:=HR.out.resolve_left (fun h=>by rw [h] at hll;exact aS _ hll);have hb0:Below w.heap.size w wr:=HB1.out.trans (HB.out.mono HB1.out.size);obtain ⟨k',t',f',e',ks',a',c',hK⟩:=Aq hp hc i hll;have hK:=hK.below hb0;have cP:=(SH.out ks[i] (bG hll)) (.slice a' ks'.length c') R wr (by rw [hK.eq];exact hK.kids) (Qe.out _ (bG hll));obtain ⟨d',hd'⟩:∃ x,deep ks[i]=x:=⟨_,rfl⟩;have kG:=hid (show max m d'=iL (ks.take (i+1)) by rw [dC hll,DF,hd',HM.out]);rw [hd'] at cP;simp only [hK.eq,arg,five] at cP;have j0:=hK.k0;have j1:=hK.k1;have j2:=hK.k2;have j3:=hK.k3;have j4:=hK.k4;clear hd' hc hp hK hb0 HM
   go_wp2_with fail
   refine cP.mono ?_;rintro e w2 ⟨rfl,hb2⟩;have HB2:=hid (HB.out.trans (hb2.mono HB.out.size));clear cP hb2
   have hmx:max (m:Int) (d':Int)=((max m d':Nat):Int):=by omega
   go_wp2_with fail
   go_roundw
   case rel=>exact ⟨i+1,max m d',by go_num,by first|rfl|rw [hmx],by omega,kG,HB2⟩
   case measure=>simp [Go.RowKit.intOf];omega
  ·obtain rfl:i=n:=by omega
   have hM:=HM.out;rw [bX (by rw [HN.out];exact ae _)] at hM
   have hmb:m≤1099511627776:=by rw [hM];exact HDW.out
   have lh:=hid hM;clear HM hM
   go_wp2_with fail
   go_ret
   exact ⟨by rw [← lh.out];go_num,HB1.out.trans (HB.out.mono HB1.out.size)⟩
end J
end Go.Proofs.YtojoahlpgmnbnaaGreatDoor
