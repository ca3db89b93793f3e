/- What the claim needs of the texts KDecl, JLaid, QPieces, UPlain, JClone, JSame. -/
import Derived.Test.YtojoahlpgmnbnaaGreatDoorUOOp
import Derived.Test.YtojoahlpgmnbnaaGreatDoorUO11
import Derived.Test.YtojoahlpgmnbnaaGreatDoorRows
import Derived.Test.YtojoahlpgmnbnaaGreatDoorUO10
import Derived.OpenShut
import Derived.Lib.LaidTab
import Derived.Lib.LaidU8T
import Derived.PinnedBridge
import Derived.Test.YtojoahlpgmnbnaaGreatDoorUO9
import Derived.Lib.SliceRun
set_option maxRecDepth 20000
set_option maxHeartbeats 16000000
namespace Go.Proofs.YtojoahlpgmnbnaaGreatDoor
namespace K
open Go.RowKit
open Go.Lib hiding intOf
open U S T J
def qd (w:World):Prop:=2<w.heap.size∧(∃ o:Obj,w.heap[2]?=some o∧o.isCells=true)∧dK w 2 0 oP
theorem qd.later {w w':World} (h:qd w) (hb:Below w.heap.size w w'):qd w':=by
 obtain ⟨h1,⟨o,h2,h3⟩,h4⟩:=h;have hq:=hb.block _ h1;refine ⟨aD h1 hb.size,⟨o,hq.trans h2,h3⟩,fun j u hj=>?_⟩;have:=h4 j u hj
 exact (hb.cell (p:=⟨_,0+j,none⟩) h1).trans this
theorem Di {O O':Nat→Prop} {W W':World} {B:Nat} (h:bN O O' W W') (hO:∀ k,O k→B≤k) (hB:B≤W.heap.size):Below B W W' :=
 ⟨h.os,h.tape,h.output,h.size,fun k hk=>h.block k (by omega) (fun ho=>by have:=hO k ho;omega)⟩
theorem YC {d:Nat} {s:By} {right:Bool} {lv:Value} {O:Nat→Prop} {B:Nat} {W:World} (hM:Mem d (fH right s) s.length lv ⟨0,[],[root]⟩ O W) (hl:(fH right s).length≤1660) (hwt:∀ p,oQ (fH right s)=.part p→rT p≤100000000) (hG:qd W) (hO:∀ k,O k→B≤k) (hB:B≤W.heap.size) (hg:2<B) :
  Calls Tryz.prog 76 #[ptr d] W fun e W'=>∃ q lv at' er,e=.returned (.tuple #[arg q lv,.int .i64 at',.int .i64 er])∧aT W' (fun _=>True) q lv∧rT q≤100000000∧pO (sj q)∧Below B W W' ∧
   kT (fH right s) s.length=if 40<deep q then (gB,0,22) else (q,at',er):=by
 have hG':Et O W:=⟨⟨hG.1,fun h=>by have:=hO _ h;omega,hG.2.1⟩,hG.2.2⟩;refine (yV hM (E4 right s) hl hG').mono ?_;intro e W' h
 unfold kT
 cases hf:oQ (fH right s) with
 | bad j =>
  rw [hf] at h;obtain ⟨O',rfl,hS⟩:=h;refine ⟨gB,.slice none 0 0,(tok (fH right s) s.length j).f,101,rfl,⟨none,0,rfl,ae _,.inl rfl⟩,by decide,pO.nil,Di hS hO hB,?_⟩;rw [ai (by decide)]
 | part p =>
  rw [hf] at h;obtain ⟨qB,O',rfl,hk,hS⟩:=h
  exact ⟨p,qB,0,0,rfl,aT.later (fun _ _ _=>rfl) (fun _ _=>trivial) _ _ hk,hwt p hf,(by have h:=BN hf;cases p;unfold Nn at h;exact h.2),Di hS hO hB,rfl⟩
theorem vS {W:World} {b:Nat} {t:TypeId} {u0 u1 u2 u3 u4:Value} (v0 v1 v2 v3 v4:Value) (h:W.heap[b]?=some (.cells #[u0,u1,u2,u3,u4] t (0,0))) :
  ∃ W',((((W.setCell ⟨b,0,none⟩ v0).setCell ⟨b,1,none⟩ v1).setCell ⟨b,2,none⟩ v2).setCell ⟨b,3,none⟩ v3).setCell ⟨b,4,none⟩ v4=W'∧W'.heap[b]?=some (.cells #[v0,v1,v2,v3,v4] t (0,0))∧(∀ k,k≠b→W'.heap[k]?=W.heap[k]?)∧∀ B,B≤b→Below B W W':=by
 have s0:(W.setCell ⟨b,0,none⟩ v0).heap[b]?=some (.cells #[v0,u1,u2,u3,u4] t (0,0)):=az h v0;have s1:((W.setCell ⟨b,0,none⟩ v0).setCell ⟨b,1,none⟩ v1).heap[b]?=some (.cells #[v0,v1,u2,u3,u4] t (0,0)):=az s0 v1;have s2:(((W.setCell ⟨b,0,none⟩ v0).setCell ⟨b,1,none⟩ v1).setCell ⟨b,2,none⟩ v2).heap[b]?=some (.cells #[v0,v1,v2,u3,u4] t (0,0)):=az s1 v2;have s3:((((W.setCell ⟨b,0,none⟩ v0).setCell ⟨b,1,none⟩ v1).setCell ⟨b,2,none⟩ v2).setCell ⟨b,3,none⟩ v3).heap[b]?=some (.cells #[v0,v1,v2,v3,u4] t (0,0)):=az s2 v3;have s4:(((((W.setCell ⟨b,0,none⟩ v0).setCell ⟨b,1,none⟩ v1).setCell ⟨b,2,none⟩ v2).setCell ⟨b,3,none⟩ v3).setCell ⟨b,4,none⟩ v4).heap[b]?=some (.cells #[v0,v1,v2,v3,v4] t (0,0)):=az s3 v4
 have pP:∀ k,k≠b→(((((W.setCell ⟨b,0,none⟩ v0).setCell ⟨b,1,none⟩ v1).setCell ⟨b,2,none⟩ v2).setCell ⟨b,3,none⟩ v3).setCell ⟨b,4,none⟩ v4).heap[k]?=W.heap[k]?:=fun k hk =>
  (ak _ _ _ _ hk).trans ((ak _ _ _ _ hk).trans ((ak _ _ _ _ hk).trans ((ak _ _ _ _ hk).trans (ak _ _ _ _ hk))))
 have b1:∀ B,B≤b→∀ (X:World) (j:Nat) (v:Value),Below B X (X.setCell ⟨b,j,none⟩ v):=fun B hB X j v=>⟨rfl,rfl,rfl,by simp,fun k hk=>ak _ _ _ _ (by show k≠b;omega)⟩
 exact ⟨_,rfl,s4,pP,fun B hB=>((((b1 B hB _ _ _).trans (b1 B hB _ _ _)).trans (b1 B hB _ _ _)).trans (b1 B hB _ _ _)).trans (b1 B hB _ _ _)⟩
theorem Jz {W:World} {R X:Nat→Prop} (hX:∀ g off k,X g→k≠[]→W.cell? ⟨g,off,none⟩≠some (.string (aU k))) {k t:By} {f e:Int} {ks:List Pt} {lv:Value} (hn:pO ks) (h:aT W R (.mk k t f e ks) lv):aT W (fun g=>R g∧¬ X g) (.mk k t f e ks) lv :=
 xQ hX (.mk [0] t f e ks) lv (by unfold Nn;exact ⟨by decide,hn⟩) h
def rG (s:ByteArray) (w:World) (e:Ending) (w':World):Prop:=∃ p at' er lv,kT (fH (okB s) s.toList) s.size=(p,at',er)∧e=.returned (.tuple #[arg p lv,.int .i64 at',.int .i64 er])∧aT w' (fun _=>True) p lv∧Below w.heap.size w w'∧rT p≤100000000
def wS (s:ByteArray) (w:World) (e:Ending) (w':World):Prop:=∃ p at' er lv,kT (fH (okB s) s.toList) s.size=(p,at',er)∧e=.returned (.tuple #[arg p lv,.int .i64 at',.int .i64 er])∧aT w' (fun g=>w.heap.size≤g) p lv∧Below w.heap.size w w'∧rT p≤100000000
theorem Sf (s:ByteArray) (w:World) (hs:s.size≤1000000000000) (hlw:(fH (okB s) s.toList).length≤1660) (hwf:∀ p,oQ (fH (okB s) s.toList)=.part p→rT p≤100000000) (hT:qI w) (hG:qd w) :
  Calls Tryz.prog 52 #[.string s] w (rG s w):=by
 have hgl:=hG.1;have HT:=hid hT;have HG:=hid hG;have HS:=hid hs;have HLW:=hid hlw;have TS:=hid hwf;have htl:=dR s;clear hT hG hlw hwf
 go_enter Tryz.func52,Tryz.ntmps52
 go_upto_region 1 with fail
 obtain ⟨w1,hw1,hq1,hb1,hz1⟩:=ic w (.cells #[.string ⟨#[]⟩,.string ⟨#[]⟩,.int .i64 0,.int .i64 0,.slice none 0 0] 49);rw [hw1];have HB1:=hid hb1;have jD:=hid hq1;have HZ1:=hid hz1;have cN:=yY s w1 HS.out (aJ HLW.out (by decide)) (HT.out.later hb1);clear hw1 hq1 hb1 hz1
 go_wp2_with fail
 refine cN.mono ?_;rintro e w2 ⟨d,rv,O,rfl,hM,hb2,hO⟩;have hz2:=HB1.out.size;have HB2:=hid (HB1.out.trans (hb2.mono hz2));have Bz:=hid ((hb2.block _ HZ1.out).trans jD.out);have cR:=YC (B:=w1.heap.size) (by rw [htl];exact hM) HLW.out TS.out (HG.out.later HB2.out) hO hb2.size (by omega);rw [htl] at cR;have HZ2:=hid (aD HZ1.out hb2.size);clear cN hM hO hb2
 go_wp2_with fail
 refine cR.mono ?_;rintro e w3 ⟨q,lv,at',er,rfl,hk,hwt,hnn,hb3,hdp⟩;have HB3:=hid (HB2.out.trans (hb3.mono hz2));have PV:=hid ((hb3.block _ HZ1.out).trans Bz.out);have HZ3:=hid (aD HZ2.out hb3.size);have BV:=hid hdp;obtain ⟨k,t,f,e,ks⟩:=q;obtain ⟨a,c,rfl⟩:=J.eF hk;have HK:=hid hk;have HNN:=hid hnn;have HWT:=hid hwt
 have cD:=fun X (hX:Below w3.heap.size w3 X)=>Se (.mk k t f e ks) (dH HK.out hX) (by have:=HWT.out;omega)
 obtain ⟨dp,YD⟩:∃ n,deep (.mk k t f e ks)=n:=⟨_,rfl⟩;rw [YD] at cD;have HDN:=hid YD;simp only [arg,five] at cD ⊢;obtain ⟨kb,hkb⟩:∃ x,aU k=x:=⟨_,rfl⟩;obtain ⟨tb,htb⟩:∃ x,aU t=x:=⟨_,rfl⟩;have HKB:=hid hkb;have HTB:=hid htb;rw [hkb,htb] at cD ⊢;obtain ⟨n,hn⟩:∃ n,ks.length=n:=⟨_,rfl⟩;have HN:=hid hn;rw [hn] at cD ⊢;clear cR hk hwt hnn hb3 hdp YD hkb htb hn htl hgl
 go_upto_region 2 with fail
 obtain ⟨w4,hw4,hq4,hb4,Ef⟩:=ic w3 (.cells #[.string kb,.string tb,.int .i64 f,.int .i64 e,.slice a n c] 49);rw [hw4];have cD4:=cD w4 hb4;have JA:=hid hq4;have uR:=hid hb4;have kH:=hid Ef;obtain ⟨⟨q0,q1,q2,q3,q4⟩,qf⟩:=J.cr hq4;clear hw4 hq4 hb4 Ef cD
 go_wp2_with fail
 refine cD4.mono ?_;rintro e' w5 ⟨rfl,hb5⟩;have xO:=(hb5.block _ kH.out).trans JA.out;have XD:=(hb5.block _ (by have:=HZ3.out;have:=uR.out.size;omega)).trans ((uR.out.block _ HZ3.out).trans PV.out);have sN:=hid (HB3.out.trans ((uR.out.trans (hb5.mono uR.out.size)).mono HB3.out.size))
 have hne:w3.heap.size≠w.heap.size:=by have:=HZ3.out;omega
 obtain ⟨⟨q0,q1,q2,q3,q4⟩,qf⟩:=J.cr xO;obtain ⟨⟨p0,p1,p2,p3,p4⟩,pf⟩:=J.cr XD;have HK5:=hid (dH (dH HK.out uR.out) hb5);have HP5:=hid XD;obtain ⟨b,hb⟩:∃ b,w.heap.size=b:=⟨_,rfl⟩;have HWB:=hid hb;rw [hb] at p0 p1 p2 p3 p4 pf hne HP5 ⊢;clear cD4 hb5 xO XD hb
 by_cases hd:40<dp
 ·go_wp2_with fail
  obtain ⟨Wf,hWf,f0,pP,hbf⟩:=vS (.string ⟨#[]⟩) (.string ⟨#[]⟩) (.int .i64 0) (.int .i64 0) (.slice none 0 0) HP5.out;rw [hWf];obtain ⟨⟨y0,y1,y2,y3,y4⟩,_⟩:=J.cr f0;have hbw:Below w.heap.size w Wf:=sN.out.trans (hbf _ (by have:=HWB.out;omega))
  have hfin:rG s w (.returned (.tuple #[.agg #[.string ⟨#[]⟩,.string ⟨#[]⟩,.int .i64 0,.int .i64 0,.slice none 0 0],.int .i64 0,.int .i64 22])) Wf :=
   ⟨gB,0,22,.slice none 0 0,by rw [BV.out,HDN.out,ay hd],rfl,⟨none,0,rfl,ae _,.inl rfl⟩,hbw,by decide⟩
  clear hWf f0 pP hbf hbw q0 q1 q2 q3 q4 qf p0 p1 p2 p3 p4 pf
  simp [bodyPost,results,Tryz.results52,go_sem,y0,y1,y2,y3,y4]
  exact hfin
 ·go_wp2_with fail
  obtain ⟨Wf,hWf,f0,pP,hbf⟩:=vS (.string kb) (.string tb) (.int .i64 f) (.int .i64 e) (.slice a n c) HP5.out;rw [hWf];obtain ⟨⟨y0,y1,y2,y3,y4⟩,_⟩:=J.cr f0;have hbw:Below w.heap.size w Wf:=sN.out.trans (hbf _ (by have:=HWB.out;omega))
  have UC:aT Wf (fun _=>True) (.mk k t f e ks) (.slice a ks.length c) :=
   aT.later (fun g hg _=>pP g hg.2) (fun _ _=>trivial) _ _ (Jz (X:=fun g=>g=b) (fun g off k hg hk=>by subst hg;exact AZ HP5.out off k hk) HNN.out HK5.out)
  have hfin:rG s w (.returned (.tuple #[.agg #[.string kb,.string tb,.int .i64 f,.int .i64 e,.slice a n c],.int .i64 at',.int .i64 er])) Wf :=
   ⟨.mk k t f e ks,at',er,.slice a ks.length c,by rw [BV.out,HDN.out,ai hd],by rw [arg,five,HKB.out,HTB.out,HN.out],UC,hbw,HWT.out⟩
  clear hWf f0 pP hbf hbw UC q0 q1 q2 q3 q4 qf p0 p1 p2 p3 p4 pf
  simp [bodyPost,results,Tryz.results52,go_sem,y0,y1,y2,y3,y4]
  exact hfin
theorem JB (s:ByteArray) (w:World) (hs:s.size≤600) (hT:qI w) (hG:qd w) :
  Calls Tryz.prog 52 #[.string s] w (rG s w) :=
 Sf s w (by omega) (by have h:=Ff (okB s) s.toList;have e:=dR s;omega) (fun p h=>BS (by have e:=dR s;omega) h) hT hG
end K
namespace J
open Go.Proofs Go.Shelf Go.RowKit
open Go.Lib hiding intOf
open U S T
open K (qd oP)
theorem Vn {W:World} {l:List (String × DataW Unit)} (hL:laidMet Tryz.prog l W) (h1:("unicode/utf8.first",Rows.laid_unicode_utf8_first)∈l) (h2:("unicode/utf8.acceptRanges",Rows.laid_unicode_utf8_acceptRanges)∈l):qI W :=
 utf8Tabs_of_readsT (U8Types.of196 lays) ⟨by kernel_rfl,by kernel_rfl,by kernel_rfl,by kernel_rfl,by kernel_rfl,by kernel_rfl,by kernel_rfl⟩
  (Pinned.utf8First_eq ▸ Lib.laidMet.reads hL h1) (Lib.laidMet.reads hL h2)
theorem Dj:Tryz.prog.cellsOf 152=2:=by kernel_rfl
theorem JC:Tryz.prog.cellsOf 153=26:=by kernel_rfl
theorem LF:Tryz.prog.cellsOf 9=1:=by kernel_rfl
theorem LG:Tryz.prog.cellsOf 3=1:=by kernel_rfl
theorem Fh {α:Type} {l:List α} (h:l.length=2):∃ a b,l=[a,b]:=by
 match l,h with
 | [a,b],_=>exact ⟨a,b,rfl⟩
theorem Oz {s:ByteArray} {l:List UInt8} (h:s.data.toList=l):s=⟨l.toArray⟩:=by
 subst h
 cases s
 simp
theorem mD {H:Type} {enc:TypeId × Value→H} {W:World} {held:Bool} {fuel:Nat} {cs:List Value} {s:List UInt8} {k:Int} {x:DataW H × List MemPlace}
  (h:DataW.trod enc Tryz.prog W 0 (fun _=>true) held fuel 152 cs=some x) (hx:x.1=.agg [.lit (.string s),.lit (.int .i64 k)]):cs=[.string ⟨s.toArray⟩,.int .i64 k]:=by
 obtain ⟨xs,n,rfl,rfl,hcl,hxl,hfd⟩:=DataW.trod_struct Tryz.underlying152 h;rw [Dj] at hcl;obtain ⟨c0,c1,rfl⟩:=Fh hcl;obtain ⟨y0,y1,rfl⟩:=Fh (hxl.trans rfl);have f0:=hfd 0 _ rfl;have f1:=hfd 1 _ rfl;have g0:DataW.trod enc Tryz.prog W 0 (fun _=>true) held n 9 (([c0,c1].drop 0).take (Tryz.prog.cellsOf 9))=some y0:=f0;rw [LF] at g0;replace g0:DataW.trod enc Tryz.prog W 0 (fun _=>true) held n 9 [c0]=some y0:=g0;have g1:DataW.trod enc Tryz.prog W 0 (fun _=>true) held n 3 (([c0,c1].drop 1).take (Tryz.prog.cellsOf 3))=some y1:=f1;rw [LG] at g1;replace g1:DataW.trod enc Tryz.prog W 0 (fun _=>true) held n 3 [c1]=some y1:=g1;obtain ⟨ts,h0,e0,_⟩:=DataW.trod_string Tryz.underlying9 g0;obtain ⟨z,h1,e1,_⟩:=DataW.trod_int Tryz.underlying3 g1
 cases h0;cases h1
 subst e0;subst e1;simp only [List.map_cons,List.map_nil,DataW.agg.injEq,List.cons.injEq,DataW.lit.injEq,Lit.int.injEq,Lit.string.injEq,true_and,and_true] at hx;obtain ⟨hs,rfl⟩:=hx;rw [Oz hs]
theorem Dk {α:Type} {k:Nat}:∀ (rows:List (List α)) (cs:List α),cs.length=rows.length*k→(∀ i r,rows[i]?=some r→(cs.drop (i*k)).take k=r)→cs=rows.flatten
 | [],cs,hl,_=>by
  simp at hl
  simpa using hl
 | r :: rows,cs,hl,h=>by
  have h0:=h 0 r rfl;simp only [Nat.zero_mul,bM] at h0
  have ih:=Dk rows (cs.drop k) (by rw [bC,hl,aH,Nat.add_mul,Nat.one_mul,gy]) (fun i r' hr=>by
   have:=h (i+1) r' (by simpa using hr);rw [List.drop_drop,show k+i*k=(i+1)*k by rw [Nat.add_mul,Nat.one_mul,Nat.add_comm]]
   exact this)
  rw [List.flatten_cons,← h0,← ih,List.take_append_drop]
theorem YE {α:Type} {l:List α} (h:l.length=13):∃ x0 x1 x2 x3 x4 x5 x6 x7 x8 x9 x10 x11 x12,l=[x0,x1,x2,x3,x4,x5,x6,x7,x8,x9,x10,x11,x12]:=by
 match l,h with
 | [x0,x1,x2,x3,x4,x5,x6,x7,x8,x9,x10,x11,x12],_=>exact ⟨x0,x1,x2,x3,x4,x5,x6,x7,x8,x9,x10,x11,x12,rfl⟩
def abu:List (List Value):=(List.range 13).map fun i=>(oP.drop (i*2)).take 2
theorem Sg {H:Type} {enc:TypeId × Value→H} {W:World} {held:Bool} {fuel:Nat} {cs:List Value} {x:DataW H × List MemPlace}
  (h:DataW.trod enc Tryz.prog W 0 (fun _=>true) held fuel 153 cs=some x) (hx:x.1=Rows.laid_bolthole_parse_marks):cs=oP:=by
 obtain ⟨xs,m,rfl,rfl,hcl,hxl,hel⟩:=DataW.trod_array Tryz.underlying153 h;rw [JC] at hcl;rw [Dj] at hel;obtain ⟨x0,x1,x2,x3,x4,x5,x6,x7,x8,x9,x10,x11,x12,rfl⟩:=YE hxl;simp only [Rows.laid_bolthole_parse_marks,List.map_cons,List.map_nil,DataW.agg.injEq,List.cons.injEq,and_true] at hx;obtain ⟨d0,d1,d2,d3,d4,d5,d6,d7,d8,d9,d10,d11,d12⟩:=hx;have r0:=mD (hel 0 (by omega)) d0;have r1:=mD (hel 1 (by omega)) d1;have r2:=mD (hel 2 (by omega)) d2;have r3:=mD (hel 3 (by omega)) d3;have r4:=mD (hel 4 (by omega)) d4;have r5:=mD (hel 5 (by omega)) d5;have r6:=mD (hel 6 (by omega)) d6;have r7:=mD (hel 7 (by omega)) d7;have r8:=mD (hel 8 (by omega)) d8;have r9:=mD (hel 9 (by omega)) d9;have r10:=mD (hel 10 (by omega)) d10;have r11:=mD (hel 11 (by omega)) d11;have r12:=mD (hel 12 (by omega)) d12;refine (Dk abu cs (k:=2) hcl (fun i r hr=>?_)).trans (by kernel_rfl);have hi:i<13:=(aN.1 hr).1
 by_cases e0:i=0
 ·subst e0
  exact r0.trans (aY hr)
 by_cases e1:i=1
 ·subst e1
  exact r1.trans (aY hr)
 by_cases e2:i=2
 ·subst e2
  exact r2.trans (aY hr)
 by_cases e3:i=3
 ·subst e3
  exact r3.trans (aY hr)
 by_cases e4:i=4
 ·subst e4
  exact r4.trans (aY hr)
 by_cases e5:i=5
 ·subst e5
  exact r5.trans (aY hr)
 by_cases e6:i=6
 ·subst e6
  exact r6.trans (aY hr)
 by_cases e7:i=7
 ·subst e7
  exact r7.trans (aY hr)
 by_cases e8:i=8
 ·subst e8
  exact r8.trans (aY hr)
 by_cases e9:i=9
 ·subst e9
  exact r9.trans (aY hr)
 by_cases e10:i=10
 ·subst e10
  exact r10.trans (aY hr)
 by_cases e11:i=11
 ·subst e11
  exact r11.trans (aY hr)
 by_cases e12:i=12
 ·subst e12
  exact r12.trans (aY hr)
 omega
theorem Vo {W:World} {l:List (String × DataW Unit)} (hL:laidMet Tryz.prog l W) (hm:("bolthole/parse.marks",Rows.laid_bolthole_parse_marks)∈l):qd W:=by
 obtain ⟨g',t',cs,fuel,p,hg',ht',hv,hd⟩:=Lib.laidMet.reads hL hm;obtain rfl:=aY ((show Tryz.prog.globalNamed "bolthole/parse.marks"=some 2 by kernel_rfl).symm.trans hg');obtain rfl:=aY ((show (Tryz.prog.globals[2]?).map (·.type)=some 153 by kernel_rfl).symm.trans ht');have e:=Sg hd rfl
 have hcell:dK W 2 0 oP:=by
  intro j u hj;have hc:=World.var?_cell (P:=Tryz.prog) (show Tryz.prog.globalNamed "bolthole/parse.marks"=some 2 by kernel_rfl) hv j;rw [bz,hc,← Array.getElem?_toList,e]
  exact hj
 have h0:=hcell 0 _ rfl;have hlt:=bB W _ h0;refine ⟨hlt,?_,hcell⟩
 unfold World.cell? at h0
 cases ho:W.heap[2]? with
 | none=>rw [ho] at h0;cases h0
 | some o =>
  refine ⟨o,rfl,?_⟩;rw [ho] at h0
  cases o <;> first|rfl|(simp at h0)
end J
namespace Q
open Go.Lib Go.Proofs.YtojoahlpgmnbnaaGreatDoor.U Go.Proofs.YtojoahlpgmnbnaaGreatDoor.S
structure su where
 f:Nat
 e:Nat
 d:Bool
 j:Bool
def mW (s:By) (a n:Nat):List Nat:=(List.range' a n).filter (yB s)
def hw (x:By):Bool:=!(fH (okB ⟨x.toArray⟩) x).isEmpty
def made (s:By) (f e:Nat):su:=⟨f,e,yB s f,!yB s f&&hw ((s.drop f).take (e - f))⟩
def uN (s:By):Nat→List Nat→List su
 | _,[]=>[]
 | f,c :: cs=>made s f c :: uN s c cs
def lU:Nat→List Nat→Nat
 | f,[]=>f
 | _,c :: cs=>lU c cs
def chain (s:By) (e f:Nat) (cs:List Nat):List su:=uN s f cs++[made s (lU f cs) e]
def pieces (s:By):List su:=chain s s.length 0 (mW s 1 (s.length - 1))
theorem OA (s:By):∀ (A B:List Nat) (f:Nat),uN s f (A++B)=uN s f A++uN s (lU f A) B
 | [],_,_=>rfl
 | c :: A,B,f=>by simp only [bH,uN,lU,OA s A B c]
theorem Fj:∀ (A B:List Nat) (f:Nat),lU f (A++B)=lU (lU f A) B
 | [],_,_=>rfl
 | c :: A,B,f=>by simp only [bH,lU,Fj A B c]
theorem Fp (s:By):∀ (A:List Nat) (f:Nat),(uN s f A).length=A.length
 | [],_=>rfl
 | c :: A,f=>by simp only [uN,aH,Fp s A c]
theorem OB (s:By) (e f:Nat) (cs:List Nat):(chain s e f cs).length=cs.length+1:=by unfold chain;simp [Fp]
theorem Fq:∀ (A:List Nat) (f:Nat),lU f A=f∨lU f A∈A
 | [],_=>.inl rfl
 | c :: A,f=>by
  rcases Fq A c with h|h
  ·exact .inr (by simp only [lU];rw [h];simp)
  ·exact .inr (by simp only [lU];exact bf _ h)
theorem Aj (s:By) (a n:Nat):mW s a (n+1)=if yB s a=true then a :: mW s (a+1) n else mW s (a+1) n:=by
 unfold mW
 rw [List.range'_succ,List.filter_cons]
theorem JD (s:By) (a m n:Nat):mW s a (m+n)=mW s a m++mW s (a+m) n:=by
 unfold mW
 rw [← List.filter_append,List.range'_append_1]
theorem vT {s:By} {a n c:Nat} (h:c∈mW s a n):a≤c∧c<a+n∧yB s c=true:=by
 unfold mW at h
 rw [List.mem_filter,List.mem_range'_1] at h
 exact ⟨h.1.1,h.1.2,h.2⟩
theorem Vp (s:By) (a n:Nat):(mW s a n).Pairwise (·<·):=by
 unfold mW
 exact (List.pairwise_lt_range' (s:=a) (n:=n)).filter _
theorem OC {v:By} (h:mV v=true):1≤v.length:=by
 cases v with
 | nil=>cases h
 | cons c r=>simp
def oZ:Nat→List su→Prop
 | _,[]=>True
 | a,p :: r=>p.f=a∧a≤p.e∧oZ p.e r
def Si:Nat→List su→Nat
 | a,[]=>a
 | _,p :: r=>Si p.e r
theorem M7:∀ {l:List su} {a:Nat},oZ a l→a≤Si a l
 | [],_,_=>ae _
 | _ :: r,_,h=>aJ h.2.1 (M7 (l:=r) h.2.2)
theorem GQ:∀ {l:List su} {a:Nat},oZ a l→∀ p∈l,a≤p.f∧p.f≤p.e∧p.e≤Si a l
 | [],_,_,p,hp=>by cases hp
 | q :: r,a,h,p,hp=>by
  rcases bA.1 hp with rfl|hp
  ·exact ⟨by rw [h.1];exact ae _,by rw [h.1];exact h.2.1,M7 (l:=r) h.2.2⟩
  ·have h1:=GQ (l:=r) h.2.2 p hp
   have:=h.2.1
   exact ⟨by omega,h1.2⟩
theorem Fs (s:By) (e:Nat):∀ (cs:List Nat) (f:Nat),(f :: cs).Pairwise (·<·)→(∀ c∈f :: cs,c≤e)→oZ f (chain s e f cs)∧Si f (chain s e f cs)=e
 | [],f,_,h=>⟨⟨rfl,h f (by simp),trivial⟩,rfl⟩
 | c :: cs,f,hp,h=>by
  have hp2:=List.pairwise_cons.1 hp;obtain ⟨h1,h2⟩:=Fs s e cs c hp2.2 (fun x hx=>h x (bf _ hx))
  exact ⟨⟨rfl,fu (hp2.1 c (by simp)),h1⟩,h2⟩
theorem uq (s:By):oZ 0 (pieces s)∧Si 0 (pieces s)=s.length:=by
 refine Fs s s.length _ 0 ?_ ?_
 ·refine List.pairwise_cons.2 ⟨fun c hc=>?_,Vp _ _ _⟩
  have:=(vT hc).1
  omega
 ·intro c hc
  rcases bA.1 hc with rfl|hc
  ·exact aL _
  ·have:=(vT hc).2.1;omega
end Q
namespace Ud
open Go.Lib Go.Proofs.YtojoahlpgmnbnaaGreatDoor.U Go.Proofs.YtojoahlpgmnbnaaGreatDoor.S Go.Proofs.YtojoahlpgmnbnaaGreatDoor.Q Go.Proofs.YtojoahlpgmnbnaaGreatDoor.T
open K (kT)
structure ku where
 f:Nat
 e:Nat
 tx:ByteArray
 p:Pt
 a:Int
 r:Int
def declT (t:ByteArray):Pt × Int × Int:=kT (fH (okB t) t.toList) t.size
def OD (f e:Nat) (t:ByteArray):ku:=⟨f,e,t,(declT t).1,(declT t).2.1,(declT t).2.2⟩
def LH (s:ByteArray) (q:su):ku:=OD q.f q.e (s.extract q.f q.e)
def decls (s:ByteArray):List ku:=((pieces s.toList).filter (·.d)).map (LH s)
def tH (s:ByteArray):List (Nat × Nat):=((pieces s.toList).filter (·.j)).map fun q=>(q.f,q.e)
def nU (l:List ku):List ByteArray:=l.map (·.tx)
def ZU (g:Nat→Bool) (k n:Nat):Prop:=n≤k∧(∀ i,i<n→g i=true)∧(n=k∨g n=false)
def cnt (g:Nat→Bool):Nat→Nat→Nat
 | 0,i=>i
 | k+1,i=>if g i=true then cnt g k (i+1) else i
theorem BX (g:Nat→Bool):∀ (k i:Nat),(∀ j,j<i→g j=true)→ZU g (k+i) (cnt g k i)
 | 0,i,h=>⟨by rw [cnt];omega,by rw [cnt];exact h,.inl (by rw [cnt];omega)⟩
 | k+1,i,h=>by
  rw [cnt]
  by_cases hg:g i=true
  ·rw [ay hg]
   have:=BX g k (i+1) (fun j hj=>by
    by_cases h1:j<i
    ·exact h j h1
    ·rw [show j=i by omega];exact hg)
   rw [show k+1+i=k+(i+1) by omega]
   exact this
  ·rw [ai hg]
   exact ⟨by omega,h,.inr (by simpa using hg)⟩
theorem ZU.one {g:Nat→Bool} {k n m:Nat} (h:ZU g k n) (h':ZU g k m):n=m:=by
 obtain ⟨h1,h2,h3⟩:=h;obtain ⟨k1,k2,k3⟩:=h'
 rcases Nat.lt_trichotomy n m with hl|hl|hl
 ·have:=k2 n hl
  rcases h3 with h3|h3
  ·omega
  ·rw [this] at h3;cases h3
 ·exact hl
 ·have:=h2 m hl
  rcases k3 with k3|k3
  ·omega
  ·rw [this] at k3;cases k3
def gH (A B:List ByteArray) (i:Nat):Bool:=decide (A[i]?=B[i]?)
def gT (A B:List ByteArray) (i:Nat):Bool:=decide (A[A.length - 1 - i]?=B[B.length - 1 - i]?)
def rH (A B:List ByteArray):Nat:=cnt (gH A B) (min A.length B.length) 0
def rJ (A B:List ByteArray):Nat:=cnt (gT A B) (min A.length B.length - rH A B) 0
def yZ (A B:List ByteArray):Nat:=rH A B+rJ A B
theorem Dl (A B:List ByteArray):ZU (gH A B) (min A.length B.length) (rH A B):=BX _ _ 0 (fun _ h=>absurd h (bq _))
theorem JE (A B:List ByteArray):ZU (gT A B) (min A.length B.length - rH A B) (rJ A B):=BX _ _ 0 (fun _ h=>absurd h (bq _))
theorem BZ (A B:List ByteArray):rH A B+rJ A B≤min A.length B.length:=by
 have h:=(Dl A B).1;have k:=(JE A B).1
 omega
def key (s:ByteArray) (q:su):Bool × ByteArray:=(q.d,s.extract q.f q.e)
theorem kI (l:List ku):(nU l).length=l.length:=fB _
theorem OE (s:ByteArray):(decls s).length≤(pieces s.toList).length:=by unfold decls;rw [fB];exact List.length_filter_le _ _
theorem o6 (s:By):(pieces s).length≤s.length+1:=by
 unfold pieces
 rw [OB]
 have h:(mW s 1 (s.length - 1)).length≤s.length - 1:=by unfold mW;exact aJ (List.length_filter_le _ _) (by simp)
 omega
end Ud
namespace J
open Go.RowKit
open Go.Lib hiding intOf
open U S T
theorem vS {W:World} {b:Nat} {t:TypeId} {u0 u1 u2 u3 u4:Value} (v0 v1 v2 v3 v4:Value) (h:W.heap[b]?=some (.cells #[u0,u1,u2,u3,u4] t (0,0))) :
  ∃ W',((((W.setCell ⟨b,0,none⟩ v0).setCell ⟨b,1,none⟩ v1).setCell ⟨b,2,none⟩ v2).setCell ⟨b,3,none⟩ v3).setCell ⟨b,4,none⟩ v4=W'∧W'.heap[b]?=some (.cells #[v0,v1,v2,v3,v4] t (0,0))∧(∀ k,k≠b→W'.heap[k]?=W.heap[k]?)∧∀ B,B≤b→Below B W W':=by
 have s0:(W.setCell ⟨b,0,none⟩ v0).heap[b]?=some (.cells #[v0,u1,u2,u3,u4] t (0,0)):=az h v0;have s1:((W.setCell ⟨b,0,none⟩ v0).setCell ⟨b,1,none⟩ v1).heap[b]?=some (.cells #[v0,v1,u2,u3,u4] t (0,0)):=az s0 v1;have s2:(((W.setCell ⟨b,0,none⟩ v0).setCell ⟨b,1,none⟩ v1).setCell ⟨b,2,none⟩ v2).heap[b]?=some (.cells #[v0,v1,v2,u3,u4] t (0,0)):=az s1 v2;have s3:((((W.setCell ⟨b,0,none⟩ v0).setCell ⟨b,1,none⟩ v1).setCell ⟨b,2,none⟩ v2).setCell ⟨b,3,none⟩ v3).heap[b]?=some (.cells #[v0,v1,v2,v3,u4] t (0,0)):=az s2 v3;have s4:(((((W.setCell ⟨b,0,none⟩ v0).setCell ⟨b,1,none⟩ v1).setCell ⟨b,2,none⟩ v2).setCell ⟨b,3,none⟩ v3).setCell ⟨b,4,none⟩ v4).heap[b]?=some (.cells #[v0,v1,v2,v3,v4] t (0,0)):=az s3 v4
 have pP:∀ k,k≠b→(((((W.setCell ⟨b,0,none⟩ v0).setCell ⟨b,1,none⟩ v1).setCell ⟨b,2,none⟩ v2).setCell ⟨b,3,none⟩ v3).setCell ⟨b,4,none⟩ v4).heap[k]?=W.heap[k]?:=fun k hk =>
  (ak _ _ _ _ hk).trans ((ak _ _ _ _ hk).trans ((ak _ _ _ _ hk).trans ((ak _ _ _ _ hk).trans (ak _ _ _ _ hk))))
 have b1:∀ B,B≤b→∀ (X:World) (j:Nat) (v:Value),Below B X (X.setCell ⟨b,j,none⟩ v):=fun B hB X j v=>⟨rfl,rfl,rfl,by simp,fun k hk=>ak _ _ _ _ (by show k≠b;omega)⟩
 exact ⟨_,rfl,s4,pP,fun B hB=>((((b1 B hB _ _ _).trans (b1 B hB _ _ _)).trans (b1 B hB _ _ _)).trans (b1 B hB _ _ _)).trans (b1 B hB _ _ _)⟩
theorem Fu {w:World} {a:Option Addr} {n c:Nat} {xs:List Value} (hc:n=0∨∃ g off,a=some ⟨g,off,none⟩∧dK w g off xs) (hl:xs.length=n*5) (hone:∀ u∈xs,u.oneCell'=true) (hw:n≤1099511627776) :
  Calls Tryz.prog 54 #[.slice a n c] w fun e w'=>∃ v',e=.returned v'∧w'.ownsRow w.heap.size 49 5 v' n xs∧Below w.heap.size w w':=by
 obtain ⟨iP,hi0,hz0,hz1,hz2⟩:=fF EO
 have q22:∀ (w:World) (a:Option Addr) (n c n' c':Nat),(binOp .eql 47 (.slice a n c) (.slice none n' c')).run Tryz.prog w=.ok (.bool a.isNone) w:=fun w a n c n' c'=>Lib.run_eql_slice_nil w _ _ a n c n' c' Tryz.underlying47
 have HC:=hid hc;have HL:=hid hl;have HO:=hid hone;clear hc hl hone
 cases a with
 | none =>
  have h0:n=0:=by
   rcases HC.out with h|⟨g,off,h,_⟩
   ·exact h
   ·cases h
  subst h0;have hx:xs=[]:=eG (by have:=HL.out;omega);subst hx
  go_enter Tryz.func54,Tryz.ntmps54
  go_wp2_with fail
  go_ret
  exact ⟨_,rfl,dD _ _ _ _,aj _ _⟩
 | some ad =>
  go_enter Tryz.func54,Tryz.ntmps54
  have hcb:∀ X,Below w.heap.size w X→(n=0∨∃ g off,some ad=some ⟨g,off,none⟩∧dK X g off xs):=fun X hX=>HC.out.imp id (fun ⟨g,off,h1,h2⟩=>⟨g,off,h1,fun j u hj=>(hX.cell (bB w _ (h2 j u hj))).trans (h2 j u hj)⟩)
  have HCB:=hid hcb;clear hcb
  go_wp2_with (at_builtin;refine ou rfl _ _ 47 rfl w.heap.size 49 iP _ 5 72 Tryz.underlying47 hi0 hz0 hz1 hz2 rfl (by decide) _ 0 [] rfl (World.ownsRow_made w #[] 0 (ae _) (aL _) rfl) _ n c xs rfl HL.out (HCB.out _ ((aj _ _).alloc (ae _) _)) HO.out (by unfold maxLen;omega) (by omega) (by simp) ?_)
  intro v' w1 bY aP _;have hb:Below w.heap.size w w1:=((aj _ w).alloc (ae _) (.cells #[] 49)).grown aP (by simp) (by intro k hk;simp [Value.ownBlock] at hk;omega);have YF:Hid (w1.ownsRow w.heap.size 49 5 v' n xs):=hid (by simpa using bY);have HB:=hid hb;clear bY aP hb
  go_wp2_with fail
  go_ret
  exact ⟨v',rfl,YF.out,HB.out⟩
def moved (f e x Kq:Int):Int:=if f=0∧e=0 then x else wrap64 (x+Kq)
mutual
def lV (Kq:Int):Pt→Pt
 | .mk k t f e ks=>.mk k t (moved f e f Kq) (moved f e e Kq) (kY Kq ks)
def kY (Kq:Int):List Pt→List Pt
 | []=>[]
 | p :: r=>lV Kq p :: kY Kq r
end
theorem uu (b:Int):∀ l,kY b l=l.map (lV b)
 | []=>rfl
 | p :: r=>by rw [kY,uu b r];rfl
theorem lu (b:Int) (l:List Pt):(kY b l).length=l.length:=by rw [uu,fB]
theorem JF (b:Int) (l:List Pt) (p:Pt):kY b (l++[p])=kY b l++[lV b p]:=by rw [uu,uu,List.map_append];rfl
theorem o8 (b:Int) {l:List Pt} {i:Nat} (h:i<l.length):kY b (l.take (i+1))=kY b (l.take i)++[lV b l[i]]:=by
 rw [dE h,JF]
mutual
def y7:Pt→Pt→Bool
 | .mk k t f e ks,.mk k' t' f' e' ks'=>k==k'&&t==t'&&f==f'&&e==e'&&lW ks ks'
def lW:List Pt→List Pt→Bool
 | [],[]=>true
 | p :: r,p' :: r'=>y7 p p'&&lW r r'
 | _,_=>false
end
mutual
theorem Fv:∀ p q,y7 p q=true ↔ p=q
 | .mk k t f e ks,.mk k' t' f' e' ks'=>by
  rw [y7];simp only [iq,beq_iff_eq,Pt.mk.injEq,Dm ks ks']
  constructor
  ·rintro ⟨⟨⟨⟨h1,h2⟩,h3⟩,h4⟩,h5⟩;exact ⟨h1,h2,h3,h4,h5⟩
  ·rintro ⟨h1,h2,h3,h4,h5⟩;exact ⟨⟨⟨⟨h1,h2⟩,h3⟩,h4⟩,h5⟩
theorem Dm:∀ a b,lW a b=true ↔ a=b
 | [],[]=>by simp [lW]
 | [],_ :: _=>by simp [lW]
 | _ :: _,[]=>by simp [lW]
 | p :: r,p' :: r'=>by
  rw [lW,iq,Fv p p',Dm r r',List.cons.injEq]
end
theorem OG (p:Pt):y7 p p=true:=(Fv p p).2 rfl
theorem JG {l l':List Pt} {i:Nat} (h:i<l.length) (h':i<l'.length):lW (l.drop i) (l'.drop i)=(y7 l[i] l'[i]&&lW (l.drop (i+1)) (l'.drop (i+1))):=by
 rw [bZ h,bZ h',lW]
theorem Dn:∀ {l l':List Pt},l.length≠l'.length→lW l l'=false
 | [],[],h=>absurd rfl h
 | [],_ :: _,_=>by simp [lW]
 | _ :: _,[],_=>by simp [lW]
 | p :: r,p' :: r',h=>by
  have:=@Dn r r' (by simpa using h)
  simp [lW,this]
theorem Sj {a b:By}:aU a=aU b ↔ a=b:=by
 constructor
 ·intro h
  have:=congrArg (fun x:ByteArray=>x.data.toList) h
  simpa [aU] using this
 ·intro h;rw [h]
theorem lC (a:By):(aU a).toList=a:=by rw [bu];simp [aU]
def abv (p:Pt):Prop:=∀ (q:Pt) (lv Cu:Value) (R R':Nat→Prop) (w:World),aT w R p lv→aT w R' q Cu→rT p≤1099511627776→rT q≤1099511627776 →
 Calls Tryz.prog 24 #[arg p lv,arg q Cu] w fun e w'=>e=.returned (.bool (y7 p q))∧Below w.heap.size w w'
theorem qK (w:World) (o1 o2:Obj):∃ w1,(w.alloc o1).alloc o2=w1∧w1.heap[w.heap.size]?=some o1∧w1.heap[w.heap.size+1]?=some o2∧Below w.heap.size w w1∧w.heap.size+1<w1.heap.size:=by
 have s1:(w.alloc o1).heap.size=w.heap.size+1:=by simp
 refine ⟨_,rfl,?_,?_,((aj _ _).alloc (ae _) _).alloc (by omega) _,by simp⟩
 ·rw [dx _ _ _ (by omega)];exact fO w o1
 ·rw [← s1];exact fO _ o2
theorem OH (w:World) (o1 o2 o3:Obj):∃ w1,((w.alloc o1).alloc o2).alloc o3=w1∧w1.heap[w.heap.size]?=some o1∧w1.heap[w.heap.size+1]?=some o2∧w1.heap[w.heap.size+1+1]?=some o3∧Below w.heap.size w w1∧w.heap.size+1+1<w1.heap.size:=by
 obtain ⟨w2,h1,h2,h3,h4,h5⟩:=qK w o1 o2
 have hs:w2.heap.size=w.heap.size+1+1:=by rw [← h1];simp
 refine ⟨_,rfl,?_,?_,?_,?_,?_⟩
 ·rw [h1,dx _ _ _ (by omega)];exact h2
 ·rw [h1,dx _ _ _ (by omega)];exact h3
 ·rw [h1,← hs];exact fO _ _
 ·rw [h1];exact h4.alloc (by omega) _
 ·rw [h1];simp;omega
theorem Sk:∀ p,abv p:=Pt.ind fun k t f e ks IH=>fun
 | .mk k' t' f' e' ks',lv,Cu,R,R',w,hv,hv',hw,hw'=>by
  obtain ⟨a,c,rfl⟩:=eF hv;obtain ⟨a',c',rfl⟩:=eF hv';obtain ⟨_,_,hrow⟩:=mU hv;obtain ⟨_,_,hrow'⟩:=mU hv';have HR:=hid hrow;have Sl:=hid hrow';have Sm:=hid IH;rw [rT] at hw hw';have hlb:ks.length≤1099511627776:=aJ (kX ks) (by omega);have ae6:ks'.length≤1099511627776:=aJ (kX ks') (by omega);have PW:=hid (fun v (h:v∈ks)=>aJ (wQ h) (show oF ks≤1099511627776 by omega));have ae7:=hid (fun v (h:v∈ks')=>aJ (wQ h) (show oF ks'≤1099511627776 by omega));obtain ⟨n,hn⟩:∃ n,ks.length=n:=⟨_,rfl⟩;obtain ⟨n',hn'⟩:∃ n,ks'.length=n:=⟨_,rfl⟩;have HN:=hid hn;have HN':=hid hn';rw [hn] at hlb;rw [hn'] at ae6;obtain ⟨kb,hkb⟩:∃ x,aU k=x:=⟨_,rfl⟩;obtain ⟨tb,htb⟩:∃ x,aU t=x:=⟨_,rfl⟩;obtain ⟨kb',hkb'⟩:∃ x,aU k'=x:=⟨_,rfl⟩;obtain ⟨tb',OI⟩:∃ x,aU t'=x:=⟨_,rfl⟩
  have hkk:(kb.toList==kb'.toList)=(k==k'):=by rw [← hkb,← hkb',lC,lC]
  have XV:(tb.toList==tb'.toList)=(t==t'):=by rw [← htb,← OI,lC,lC]
  obtain ⟨b,hb⟩:∃ b,y7 (.mk k t f e ks) (.mk k' t' f' e' ks')=b:=⟨_,rfl⟩;rw [hb];rw [y7] at hb;simp only [arg,five];rw [hn,hn',hkb,htb,hkb',OI];clear hv hv' hrow hrow' IH hw hw' hn hn';obtain ⟨b1,hb1⟩:∃ b1,(k==k')=b1:=⟨_,rfl⟩;rw [hb1] at hkk hb
  cases b1 with
  | false =>
   simp only [Bool.false_and] at hb;subst hb;have HFin:Hid (Below w.heap.size w ((w.alloc (.cells #[.string kb,.string tb,.int .i64 f,.int .i64 e,.slice a n c] 49)).alloc (.cells #[.string kb',.string tb',.int .i64 f',.int .i64 e',.slice a' n' c'] 49))):=hid (((aj _ _).alloc (ae _) _).alloc (by simp) _);clear XV hb1 hkb htb hkb' OI
   go_enter Tryz.func24,Tryz.ntmps24
   go_wp2_with fail
   go_ret
   exact ⟨rfl,HFin.out⟩
  | true =>
  obtain rfl:kb=kb':=hkb.symm.trans ((congrArg aU (show k=k' by simpa using hb1)).trans hkb');clear hkk;obtain ⟨b2,hb2⟩:∃ b2,(t==t')=b2:=⟨_,rfl⟩;rw [hb2] at XV hb
  cases b2 with
  | false =>
   simp only [Bool.true_and,Bool.false_and] at hb;subst hb;have HFin:Hid (Below w.heap.size w ((w.alloc (.cells #[.string kb,.string tb,.int .i64 f,.int .i64 e,.slice a n c] 49)).alloc (.cells #[.string kb,.string tb',.int .i64 f',.int .i64 e',.slice a' n' c'] 49))):=hid (((aj _ _).alloc (ae _) _).alloc (by simp) _);clear hb1 hb2 hkb htb hkb' OI
   go_enter Tryz.func24,Tryz.ntmps24
   go_wp2_with fail
   go_ret
   exact ⟨rfl,HFin.out⟩
  | true =>
  obtain rfl:tb=tb':=htb.symm.trans ((congrArg aU (show t=t' by simpa using hb2)).trans OI);clear XV hkb htb hkb' OI;have HFin:Hid (Below w.heap.size w ((w.alloc (.cells #[.string kb,.string tb,.int .i64 f,.int .i64 e,.slice a n c] 49)).alloc (.cells #[.string kb,.string tb,.int .i64 f',.int .i64 e',.slice a' n' c'] 49))):=hid (((aj _ _).alloc (ae _) _).alloc (by simp) _)
  by_cases hf:f=f'
  case neg =>
   have e1:(f==f')=false:=by simpa using hf
   have e2:(f != f')=true:=by simpa using hf
   rw [e1] at hb;simp only [Bool.true_and,Bool.false_and] at hb;subst hb;clear hb1 hb2 hf
   go_enter Tryz.func24,Tryz.ntmps24
   go_wp2_with fail
   go_ret
   exact ⟨rfl,HFin.out⟩
  subst hf
  by_cases he:e=e'
  case neg =>
   have e1:(e==e')=false:=by simpa using he
   have e2:(e != e')=true:=by simpa using he
   rw [e1] at hb;simp only [beq_self_eq_true,Bool.true_and,Bool.false_and] at hb;subst hb;clear hb1 hb2 he
   go_enter Tryz.func24,Tryz.ntmps24
   go_wp2_with fail
   go_ret
   exact ⟨rfl,HFin.out⟩
  subst he;simp only [beq_self_eq_true,Bool.true_and] at hb
  by_cases hl:n=n'
  case neg =>
   rw [Dn (by rw [HN.out,HN'.out];exact hl)] at hb;subst hb
   have e1:((n:Int)==(n':Int))=false:=by simp;omega
   clear hb1 hb2
   go_enter Tryz.func24,Tryz.ntmps24
   go_wp2_with fail
   go_ret
   exact ⟨rfl,HFin.out⟩
  subst hl;have HF:=hid (show lW (ks.drop 0) (ks'.drop 0)=b from hb);clear hb hb1 hb2 HFin
  go_enter Tryz.func24,Tryz.ntmps24
  go_wp2_with fail
  obtain ⟨w1,hw1,hq1,hr1,Ai,hz1⟩:=qK w (.cells #[.string kb,.string tb,.int .i64 f,.int .i64 e,.slice a n c] 49) (.cells #[.string kb,.string tb,.int .i64 f,.int .i64 e,.slice a' n c'] 49);rw [hw1];have jD:=hid hq1;have HR1:=hid hr1;have HB1:=hid Ai;clear hw1 hq1 hr1 Ai
  go_loopw [5] (fun iv wr=>∃ i:Nat,iv=.int .i64 i∧i≤n∧Hid (lW (ks.drop i) (ks'.drop i)=b)∧Hid (Below w1.heap.size w1 wr)) (fun iv _=>n - (Go.RowKit.intOf iv).toNat)
  case atStart=>exact ⟨0,rfl,aL _,HF,hid (aj _ _)⟩
  case round =>
   obtain ⟨i,rfl,hi,HI,HB⟩:=hrel;have hq:=(HB.out.block w.heap.size (by omega)).trans jD.out;have hr:=(HB.out.block (w.heap.size+1) hz1).trans HR1.out;obtain ⟨⟨k0,k1,k2,k3,k4⟩,kf⟩:=cr hq;obtain ⟨⟨l0,l1,l2,l3,l4⟩,lf⟩:=cr hr;have hz2:=HB.out.size;clear hq hr
   by_cases hlt:i<n
   ·have hll:i<ks.length:=by rw [HN.out];exact hlt
    have Sn:i<ks'.length:=by rw [HN'.out];exact hlt
    obtain ⟨g,off,xs,rfl,hg,hc,hp⟩:=HR.out.resolve_left (fun h=>by rw [h] at hll;exact bq _ hll);obtain ⟨g',off',xs',rfl,hg',hc',hp'⟩:=Sl.out.resolve_left (fun h=>by rw [h] at Sn;exact bq _ Sn);have hb0:Below w.heap.size w wr:=HB1.out.trans (HB.out.mono HB1.out.size);obtain ⟨kk,tt,ff,ee,Im,aa,cc,hK⟩:=Af hp hc i hll;obtain ⟨kk',tt',ZV,ZW,YG,Io,Ip,hK'⟩:=Af hp' hc' i Sn;have hK:=hK.below hb0;have hK':=hK'.below hb0;have hI:=HI.out;rw [JG hll Sn] at hI;obtain ⟨b',hb'⟩:∃ b',y7 ks[i] ks'[i]=b':=⟨_,rfl⟩
    have cP:=fun X (hX:Below wr.heap.size wr X)=>(Sm.out ks[i] (bF hll)) ks'[i] (.slice aa Im.length cc) (.slice Io YG.length Ip) R R' X (by rw [hK.eq];exact dH hK.kids hX) (by rw [hK'.eq];exact dH hK'.kids hX) (PW.out _ (bF hll)) (ae7.out _ (bF Sn))
    rw [hb'] at hI cP;simp only [hK.eq,hK'.eq,arg,five] at cP;have HI2:=hid hI;have j0:=hK.k0;have j1:=hK.k1;have j2:=hK.k2;have j3:=hK.k3;have j4:=hK.k4;have m0:=hK'.k0;have m1:=hK'.k1;have m2:=hK'.k2;have m3:=hK'.k3;have m4:=hK'.k4;obtain ⟨y0,hy0⟩:∃ x,aU kk=x:=⟨_,rfl⟩;obtain ⟨y1,hy1⟩:∃ x,aU tt=x:=⟨_,rfl⟩;obtain ⟨y2,hy2⟩:∃ x,aU kk'=x:=⟨_,rfl⟩;obtain ⟨y3,hy3⟩:∃ x,aU tt'=x:=⟨_,rfl⟩;obtain ⟨z0,hz0⟩:∃ x,Im.length=x:=⟨_,rfl⟩;obtain ⟨z1,hz1'⟩:∃ x,YG.length=x:=⟨_,rfl⟩;rw [hy0] at j0 cP;rw [hy1] at j1 cP;rw [hy2] at m0 cP;rw [hy3] at m1 cP;rw [hz0] at j4 cP;rw [hz1'] at m4 cP
    have hi0:(0:Int)≤(i:Int):=by omega
    have hi1:(i:Int)<(n:Int):=by omega
    clear hI hb' hc hp hc' hp' hK hK' hb0 HI hy0 hy1 hy2 hy3 hz0 hz1'
    go_upto_region 6 with fail
    have cl:∀ {X:World} {b o:Nat} {v:Value},Below wr.heap.size wr X→wr.cell? ⟨b,o,none⟩=some v→X.cell? ⟨b,o,none⟩=some v:=fun hX h=>(hX.cell (bB wr _ h)).trans h
    have hS:∀ X,Below wr.heap.size wr X→Below wr.heap.size wr X∧X.cell? ⟨w.heap.size,4,none⟩=some (.slice (some ⟨g,off,none⟩) n c)∧X.cell? ⟨w.heap.size+1,4,none⟩=some (.slice (some ⟨g',off',none⟩) n c')∧X.cell? ⟨g,off+i*5,none⟩=some (.string y0)∧X.cell? ⟨g,off+i*5+1,none⟩=some (.string y1)∧X.cell? ⟨g,off+i*5+2,none⟩=some (.int .i64 ff)∧X.cell? ⟨g,off+i*5+3,none⟩=some (.int .i64 ee)∧X.cell? ⟨g,off+i*5+4,none⟩=some (.slice aa z0 cc)∧X.cell? ⟨g',off'+i*5,none⟩=some (.string y2)∧X.cell? ⟨g',off'+i*5+1,none⟩=some (.string y3)∧X.cell? ⟨g',off'+i*5+2,none⟩=some (.int .i64 ZV)∧X.cell? ⟨g',off'+i*5+3,none⟩=some (.int .i64 ZW)∧X.cell? ⟨g',off'+i*5+4,none⟩=some (.slice Io z1 Ip):=fun X h=>⟨h,cl h k4,cl h l4,cl h j0,cl h j1,cl h j2,cl h j3,cl h j4,cl h m0,cl h m1,cl h m2,cl h m3,cl h m4⟩
    obtain ⟨d0,d1,d2,d3,d4,d5,d6,d7,d8,d9,d10,d11,d12⟩:=hS wr.drew (aj _ _).drew
    have cS:∀ X,(Below wr.heap.size wr X∧X.cell? ⟨w.heap.size,4,none⟩=some (.slice (some ⟨g,off,none⟩) n c)∧X.cell? ⟨w.heap.size+1,4,none⟩=some (.slice (some ⟨g',off',none⟩) n c')∧X.cell? ⟨g,off+i*5,none⟩=some (.string y0)∧X.cell? ⟨g,off+i*5+1,none⟩=some (.string y1)∧X.cell? ⟨g,off+i*5+2,none⟩=some (.int .i64 ff)∧X.cell? ⟨g,off+i*5+3,none⟩=some (.int .i64 ee)∧X.cell? ⟨g,off+i*5+4,none⟩=some (.slice aa z0 cc)∧X.cell? ⟨g',off'+i*5,none⟩=some (.string y2)∧X.cell? ⟨g',off'+i*5+1,none⟩=some (.string y3)∧X.cell? ⟨g',off'+i*5+2,none⟩=some (.int .i64 ZV)∧X.cell? ⟨g',off'+i*5+3,none⟩=some (.int .i64 ZW)∧X.cell? ⟨g',off'+i*5+4,none⟩=some (.slice Io z1 Ip))→Calls Tryz.prog 24 #[.agg #[.string y0,.string y1,.int .i64 ff,.int .i64 ee,.slice aa z0 cc],.agg #[.string y2,.string y3,.int .i64 ZV,.int .i64 ZW,.slice Io z1 Ip]] X fun e w'=>e=.returned (.bool b')∧Below wr.heap.size wr w'∧w'.cell? ⟨w.heap.size,4,none⟩=some (.slice (some ⟨g,off,none⟩) n c)∧w'.cell? ⟨w.heap.size+1,4,none⟩=some (.slice (some ⟨g',off',none⟩) n c')∧w'.cell? ⟨g,off+i*5,none⟩=some (.string y0)∧w'.cell? ⟨g,off+i*5+1,none⟩=some (.string y1)∧w'.cell? ⟨g,off+i*5+2,none⟩=some (.int .i64 ff)∧w'.cell? ⟨g,off+i*5+3,none⟩=some (.int .i64 ee)∧w'.cell? ⟨g,off+i*5+4,none⟩=some (.slice aa z0 cc)∧w'.cell? ⟨g',off'+i*5,none⟩=some (.string y2)∧w'.cell? ⟨g',off'+i*5+1,none⟩=some (.string y3)∧w'.cell? ⟨g',off'+i*5+2,none⟩=some (.int .i64 ZV)∧w'.cell? ⟨g',off'+i*5+3,none⟩=some (.int .i64 ZW)∧w'.cell? ⟨g',off'+i*5+4,none⟩=some (.slice Io z1 Ip):=fun X hX=>(cP X hX.1).mono (fun e w' h=>⟨h.1,hS w' (hX.1.trans (h.2.mono hX.1.size))⟩)
    have HS:=hid hS;clear hS cl cP k0 k1 k2 k3 k4 kf l0 l1 l2 l3 l4 lf j0 j1 j2 j3 j4 m0 m1 m2 m3 m4
    go_region_held3 (fun X=>Below wr.heap.size wr X∧X.cell? ⟨w.heap.size,4,none⟩=some (.slice (some ⟨g,off,none⟩) n c)∧X.cell? ⟨w.heap.size+1,4,none⟩=some (.slice (some ⟨g',off',none⟩) n c')∧X.cell? ⟨g,off+i*5,none⟩=some (.string y0)∧X.cell? ⟨g,off+i*5+1,none⟩=some (.string y1)∧X.cell? ⟨g,off+i*5+2,none⟩=some (.int .i64 ff)∧X.cell? ⟨g,off+i*5+3,none⟩=some (.int .i64 ee)∧X.cell? ⟨g,off+i*5+4,none⟩=some (.slice aa z0 cc)∧X.cell? ⟨g',off'+i*5,none⟩=some (.string y2)∧X.cell? ⟨g',off'+i*5+1,none⟩=some (.string y3)∧X.cell? ⟨g',off'+i*5+2,none⟩=some (.int .i64 ZV)∧X.cell? ⟨g',off'+i*5+3,none⟩=some (.int .i64 ZW)∧X.cell? ⟨g',off'+i*5+4,none⟩=some (.slice Io z1 Ip)) (with_reducible (repeat (first|assumption|refine And.intro ?_ ?_))) (first|(with_reducible refine (cS _ ?_).mono ?_;(with_reducible (repeat (first|assumption|refine And.intro ?_ ?_)));rintro e w2 ⟨rfl,hS2⟩))
    have HB2:=hid (HB.out.trans (hS2.1.mono hz2));clear hS2 cS d0 d1 d2 d3 d4 d5 d6 d7 d8 d9 d10 d11 d12
    cases b' with
    | false =>
     have hI:=HI2.out;rw [Bool.false_and] at hI;subst hI
     go_wp2_with fail
     go_ret
     exact ⟨rfl,HB1.out.trans (HB2.out.mono HB1.out.size)⟩
    | true =>
     have hI:=HI2.out;rw [Bool.true_and] at hI;have HI3:=hid hI;clear hI HI2
     go_wp2_with fail
     go_roundw
     case rel=>exact ⟨i+1,by go_num,by omega,HI3,HB2⟩
     case measure=>simp [Go.RowKit.intOf];omega
   ·obtain rfl:i=n:=by omega
    have hI:=HI.out;rw [List.drop_eq_nil_of_le (by rw [HN.out];exact ae _),List.drop_eq_nil_of_le (by rw [HN'.out];exact ae _),lW] at hI;subst hI;clear HI
    go_wp2_with fail
    go_ret
    exact ⟨rfl,HB1.out.trans (HB.out.mono HB1.out.size)⟩
theorem Dp:∀ (a:List Pt) (p:Pt),iO (a++[p])=max (iO a) (deep p)
 | [],p=>by rw [fA,iO,iO,iO];omega
 | x :: r,p=>by rw [bH,iO,iO,Dp r p];omega
mutual
theorem Vq:∀ p,deep p≤rT p
 | .mk k t f e ks=>by have:=Dq ks;rw [deep,rT];omega
theorem Dq:∀ l,iO l≤oF l
 | []=>by rw [iO];exact aL _
 | p :: r=>by have:=Vq p;have:=Dq r;rw [iO,oF];omega
end
def abx (p:Pt):Prop:=∀ (lv:Value) (R:Nat→Prop) (w:World),aT w R p lv→rT p≤1099511627776 →
 Calls Tryz.prog 45 #[arg p lv] w fun e w'=>e=.returned (.int .i64 (deep p))∧Below w.heap.size w w'
theorem qg:∀ p,abx p:=Pt.ind fun k t f e ks IH lv R w hv hw=>by
 obtain ⟨a,c,rfl⟩:=eF hv;obtain ⟨_,hcap,hrow⟩:=mU hv;have HR:=hid hrow;have Sm:=hid IH;rw [rT] at hw;have hlb:ks.length≤1099511627776:=aJ (kX ks) (by omega);have PW:=hid (fun v (h:v∈ks)=>aJ (wQ h) (show oF ks≤1099511627776 by omega));have HDW:=hid (show iO ks≤1099511627776 by have:=Dq ks;omega)
 have hD:deep (.mk k t f e ks)=iO ks+1:=by rw [deep]
 rw [hD];obtain ⟨n,hn⟩:∃ n,ks.length=n:=⟨_,rfl⟩;have HN:=hid hn;simp only [arg,five];rw [hn];rw [hn] at hlb;obtain ⟨kb,hkb⟩:∃ x,aU k=x:=⟨_,rfl⟩;obtain ⟨tb,htb⟩:∃ x,aU t=x:=⟨_,rfl⟩;rw [hkb,htb];clear hv hrow IH hw hn hcap hkb htb hD
 go_enter Tryz.func45,Tryz.ntmps45
 go_wp2_with fail
 obtain ⟨w1,hw1,hq1,hb1,hz1⟩:=ic w (.cells #[.string kb,.string tb,.int .i64 f,.int .i64 e,.slice a n c] 49);rw [hw1];have jD:=hid hq1;have HB1:=hid hb1;clear hq1 hb1 hw1
 go_loopw [3,4] (fun mv iv wr=>∃ i m:Nat,iv=.int .i64 i∧mv=.int .i64 m∧i≤n∧Hid (m=iO (ks.take i))∧Hid (Below w1.heap.size w1 wr)) (fun _ iv _=>n - (Go.RowKit.intOf iv).toNat)
 case atStart=>exact ⟨0,0,rfl,rfl,aL _,hid (by rw [List.take_zero,iO]),hid (aj _ _)⟩
 case round =>
  obtain ⟨i,m,rfl,rfl,hi,HM,HB⟩:=hrel;have hq:=(HB.out.block w.heap.size hz1).trans jD.out;obtain ⟨⟨k0,k1,k2,k3,k4⟩,kf⟩:=cr hq;have hz2:=HB.out.size;clear hq
  by_cases hlt:i<n
  ·have hll:i<ks.length:=by rw [HN.out];exact hlt
   obtain ⟨g,off,xs,rfl,hg,hc,hp⟩:=HR.out.resolve_left (fun h=>by rw [h] at hll;exact bq _ hll);have hb0:Below w.heap.size w wr:=HB1.out.trans (HB.out.mono HB1.out.size);obtain ⟨k',t',f',e',ks',a',c',hK⟩:=Af hp hc i hll;have hK:=hK.below hb0;have cP:=(Sm.out ks[i] (bF hll)) (.slice a' ks'.length c') R wr (by rw [hK.eq];exact hK.kids) (PW.out _ (bF hll));obtain ⟨d',hd'⟩:∃ x,deep ks[i]=x:=⟨_,rfl⟩;have kG:=hid (show max m d'=iO (ks.take (i+1)) by rw [dE hll,Dp,hd',HM.out]);rw [hd'] at cP;simp only [hK.eq,arg,five] at cP;have j0:=hK.k0;have j1:=hK.k1;have j2:=hK.k2;have j3:=hK.k3;have j4:=hK.k4;clear hd' hc hp hK hb0 HM
   go_wp2_with fail
   refine cP.mono ?_;rintro e w2 ⟨rfl,hb2⟩;have HB2:=hid (HB.out.trans (hb2.mono HB.out.size));clear cP hb2
   have hmx:max (m:Int) (d':Int)=((max m d':Nat):Int):=by omega
   go_wp2_with fail
   go_roundw
   case rel=>exact ⟨i+1,max m d',by go_num,by first|rfl|rw [hmx],by omega,kG,HB2⟩
   case measure=>simp [Go.RowKit.intOf];omega
  ·obtain rfl:i=n:=by omega
   have hM:=HM.out;rw [bX (by rw [HN.out];exact ae _)] at hM
   have hmb:m≤1099511627776:=by rw [hM];exact HDW.out
   have lq:=hid hM;clear HM hM
   go_wp2_with fail
   go_ret
   exact ⟨by rw [← lq.out];go_num,HB1.out.trans (HB.out.mono HB1.out.size)⟩
end J
end Go.Proofs.YtojoahlpgmnbnaaGreatDoor
