/- What the claim needs of the texts TAll. -/
import Derived.Test.YtojoahlpgmnbnaaGreatDoorUOOp
import Derived.Test.YtojoahlpgmnbnaaGreatDoorUO20
set_option maxRecDepth 20000
set_option maxHeartbeats 16000000
namespace Go.Proofs.YtojoahlpgmnbnaaGreatDoor
namespace T
open Go.RowKit
open Go.Lib hiding intOf
open U S L
def acA:Option Value→Int
 | some (.int _ x)=>x
 | _=>0
def sM (n:Nat) (xs:List Value):Int:=if n=0 then 0 else acA xs[2]?
def xC (n:Nat) (xs:List Value):Int:=if n=0 then 0 else acA xs[(n - 1)*5+3]?
theorem Ig {B:Nat} (kb:ByteArray) (n:Nat) (xs:List Value) (a:Option Addr) (c:Nat) (W:World) (bY:W.ownsRow B 49 5 (.slice a n c) n xs) (h5:uP n xs) (hn:n≤1000000) :
  Calls Tryz.prog 67 #[.string kb,.slice a n c] W fun e W'=>e=.returned (.agg #[.string kb,.string ⟨#[]⟩,.int .i64 (sM n xs),.int .i64 (xC n xs),.slice a n c])∧Below W.heap.size W W':=by
 obtain ⟨F,hF⟩:∃ F,sM n xs=F:=⟨_,rfl⟩;obtain ⟨E,hE⟩:∃ E,xC n xs=E:=⟨_,rfl⟩;rw [hF,hE];obtain ⟨W1,hW1⟩:∃ X,W.alloc gB=X:=⟨_,rfl⟩
 have hb1:Below W.heap.size W W1:=by rw [← hW1];exact (aj _ W).alloc (ae _) _
 have hq1:W1.heap[W.heap.size]?=some (.cells #[.string ⟨#[]⟩,.string ⟨#[]⟩,.int .i64 0,.int .i64 0,.slice none 0 0] 49 (0,0)):=by rw [← hW1];exact aG W _
 obtain ⟨W2,hW2⟩:∃ X,W1.alloc (.cells #[.string kb,.string ⟨#[]⟩,.int .i64 0,.int .i64 0,.slice a n c] 49)=X:=⟨_,rfl⟩
 have hb2:Below W1.heap.size W1 W2:=by rw [← hW2];exact (aj _ W1).alloc (ae _) _
 have hq2:W2.heap[W1.heap.size]?=some (.cells #[.string kb,.string ⟨#[]⟩,.int .i64 0,.int .i64 0,.slice a n c] 49 (0,0)):=by rw [← hW2];exact aG W1 _
 have hz1:=(af.1 hq1).1;have hz2:=(af.1 hq2).1;obtain ⟨q,hq⟩:∃ q,W1.heap.size=q:=⟨_,rfl⟩;rw [hq] at hq2 hz1 hz2;have hq12:W2.heap[W.heap.size]?=_:=(hb2.block W.heap.size (by omega)).trans hq1;have Zt:=hid (hb1.trans (hb2.mono hb1.size));have jD:=hid hq12;have Bz:=hid hq2;have HZ:=hid (And.intro hz1 hz2)
 by_cases h0:n=0
 ·have hF0:F=0:=by rw [← hF];unfold sM;rw [ay h0]
  have hE0:E=0:=by rw [← hE];unfold xC;rw [ay h0]
  subst hF0 hE0 h0;obtain ⟨⟨p0,p1,p2,p3,p4⟩,pz⟩:=aF hq2;obtain ⟨⟨r0,r1,r2,r3,r4⟩,gz⟩:=aF hq12;have g0:=gz 0;have g1:=gz 1;have g2:=gz 2;have g3:=gz 3;have g4:=gz 4;clear gz pz hq1 hq2 hq12 hb1 hb2 bY h5 hF hE hz1 hz2
  go_enter Tryz.func67,Tryz.ntmps67
  go_upto_region 2 with fail
  try rw [hW1]
  try rw [hW2]
  try rw [hq]
  clear hW1 hW2 hq
  go_wp2_with fail
  have hp:=dS (a':=.string kb) (b':=.string ⟨#[]⟩) (c':=.int .i64 0) (d':=.int .i64 0) (e':=.slice a 0 c) jD.out;refine aB (v:=.agg #[.string kb,.string ⟨#[]⟩,.int .i64 0,.int .i64 0,.slice a 0 c]) (aQ rfl _ _ W.heap.size 49 #[.string kb,.string ⟨#[]⟩,.int .i64 0,.int .i64 0,.slice a 0 c] (0,0) _ (by rfl) hp Tryz.underlying49 rfl (by kernel_rfl)) rfl ?_
  exact ⟨rfl,Zt.out.trans (((((((aj W.heap.size W2).setCell (p:=⟨W.heap.size,0,none⟩) (ae _) _).setCell (p:=⟨W.heap.size,1,none⟩) (ae _) _).setCell (p:=⟨W.heap.size,2,none⟩) (ae _) _).setCell (p:=⟨W.heap.size,3,none⟩) (ae _) _).setCell (p:=⟨W.heap.size,4,none⟩) (ae _) _))⟩
 ·obtain ⟨k,rfl⟩:∃ k,n=k+1:=⟨n - 1,by omega⟩
  obtain ⟨f,hf⟩:=h5.first;obtain ⟨e,he⟩:=h5.last
  have hfF:f=F:=by rw [← hF];unfold sM;rw [ai h0,hf];rfl
  have heE:e=E:=by rw [← hE];unfold xC;rw [ai h0,gy,he];rfl
  subst hfF heE;have hlen:=h5.length
  rcases bY.2 with ⟨_,h1⟩|⟨g,cap,cur,h1,hBg,h3,h4,_,h6,h7⟩
  ·omega
  injection h1 with h1 _ h2
  subst h1
  have hat:∀ j u,xs[j]?=some u→W2.cell? ⟨g,j,none⟩=some u:=fun j u hj=>by
   have hgl:=(af.1 h3).1;have:=Zt.out.block g hgl
   unfold World.cell?
   rw [this,h3];rw [← h7,List.getElem?_take] at hj
   split at hj
   ·simpa using hj
   ·cases hj
  have t0:=hat 2 _ hf;have t1:=hat (k*5+3) _ he
  have hgq:g≠q∧g≠W.heap.size:=by
   have hgl:=(af.1 h3).1
   omega
  obtain ⟨⟨p0,p1,p2,p3,p4⟩,pz⟩:=aF hq2
  have e1:IntKind.i64.wrap (((k+1:Nat):Int) - 1)=(k:Int):=by rw [show ((k+1:Nat):Int) - 1=(k:Int) by omega];exact bg _ (by omega)
  have e2:(0:Int)<((k+1:Nat):Int):=by omega
  have e3:(k:Int)<((k+1:Nat):Int):=by omega
  have e4:(0:Int)≤(k:Int):=by omega
  have f2:=pz 2;have f3:=pz 3;obtain ⟨nn,hnn⟩:∃ u,k+1=u:=⟨_,rfl⟩;rw [hnn] at e1 e2 e3 p4 Bz hW2 ⊢;obtain ⟨W3,hW3⟩:∃ X,W2.setCell ⟨q,2,none⟩ (.int .i64 f)=X:=⟨_,rfl⟩
  have hq3:W3.heap[q]?=some (.cells #[.string kb,.string ⟨#[]⟩,.int .i64 f,.int .i64 0,.slice (some ⟨g,0,none⟩) nn c] 49 (0,0)):=by rw [← hW3];exact az Bz.out _
  have ho3:∀ k,k≠q→W3.heap[k]?=W2.heap[k]?:=fun k hk=>by rw [← hW3];exact ak _ _ _ _ hk
  obtain ⟨W4,NM⟩:∃ X,W3.setCell ⟨q,3,none⟩ (.int .i64 e)=X:=⟨_,rfl⟩
  have hq4:W4.heap[q]?=some (.cells #[.string kb,.string ⟨#[]⟩,.int .i64 f,.int .i64 e,.slice (some ⟨g,0,none⟩) nn c] 49 (0,0)):=by rw [← NM];exact az hq3 _
  have WV:∀ k,k≠q→W4.heap[k]?=W3.heap[k]?:=fun k hk=>by rw [← NM];exact ak _ _ _ _ hk
  have hr4:W4.heap[W.heap.size]?=_:=(WV _ (by omega)).trans ((ho3 _ (by omega)).trans hq12)
  have s1:W3.cell? ⟨g,k*5+3,none⟩=some (.int .i64 e):=by rw [iy (ho3 g hgq.1)];exact t1
  have uR:Hid (Below W.heap.size W W4):=hid (by
   rw [← NM,← hW3]
   exact (Zt.out.setCell (p:=⟨q,2,none⟩) (by show W.heap.size≤q;omega) _).setCell (p:=⟨q,3,none⟩) (by show W.heap.size≤q;omega) _)
  obtain ⟨⟨m0,m1,m2,m3,m4⟩,mz⟩:=aF hq3;obtain ⟨⟨l0,l1,l2,l3,l4⟩,lz⟩:=aF hq4;obtain ⟨⟨r0,r1,r2,r3,r4⟩,gz⟩:=aF hr4;have x3:=mz 3;have g0:=gz 0;have g1:=gz 1;have g2:=gz 2;have g3:=gz 3;have g4:=gz 4;have HR4:=hid hr4;clear gz pz mz lz hq1 hq2 hq12 hb1 hb2 bY h5 hF hE hat h3 h7 h4 h6 hf he t1 hq3 ho3 hq4 WV hr4 hlen h2
  go_enter Tryz.func67,Tryz.ntmps67
  go_upto_region 2 with fail
  try rw [hW1]
  try rw [hW2]
  try rw [hq]
  go_wp2_with fail
  have hp:=dS (a':=.string kb) (b':=.string ⟨#[]⟩) (c':=.int .i64 f) (d':=.int .i64 e) (e':=.slice (some ⟨g,0,none⟩) nn c) HR4.out;refine aB (v:=.agg #[.string kb,.string ⟨#[]⟩,.int .i64 f,.int .i64 e,.slice (some ⟨g,0,none⟩) nn c]) (aQ rfl _ _ W.heap.size 49 #[.string kb,.string ⟨#[]⟩,.int .i64 f,.int .i64 e,.slice (some ⟨g,0,none⟩) nn c] (0,0) _ (by rfl) hp Tryz.underlying49 rfl (by kernel_rfl)) rfl ?_
  exact ⟨rfl,uR.out.trans (((((((aj W.heap.size W4).setCell (p:=⟨W.heap.size,0,none⟩) (ae _) _).setCell (p:=⟨W.heap.size,1,none⟩) (ae _) _).setCell (p:=⟨W.heap.size,2,none⟩) (ae _) _).setCell (p:=⟨W.heap.size,3,none⟩) (ae _) _).setCell (p:=⟨W.heap.size,4,none⟩) (ae _) _))⟩
end T
end Go.Proofs.YtojoahlpgmnbnaaGreatDoor
