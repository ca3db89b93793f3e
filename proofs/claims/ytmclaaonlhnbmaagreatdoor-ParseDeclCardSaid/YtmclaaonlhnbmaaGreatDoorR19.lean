/- What the claim needs of the texts TAll. -/
import Derived.Test.YtmclaaonlhnbmaaGreatDoorROp
import Derived.Test.YtmclaaonlhnbmaaGreatDoorR15
namespace Go.Proofs.YtmclaaonlhnbmaaGreatDoor.T
open Go.RowKit
open Go.Lib hiding intOf
open U S L
def intC:Option Value→Int
 | some (.int _ x)=>x
 | _=>0
def firstF (n:Nat) (xs:List Value):Int:=if n=0 then 0 else intC xs[2]?
def lastE (n:Nat) (xs:List Value):Int:=if n=0 then 0 else intC xs[(n - 1)*5+3]?
set_option maxHeartbeats 8000000 in
set_option maxRecDepth 20000 in
theorem all_fn {B:Nat} (kb:ByteArray) (n:Nat) (xs:List Value) (a:Option Addr) (c:Nat) (W:World) (hown:W.ownsRow B 25 5 (.slice a n c) n xs) (h5:Fives n xs) (hn:n≤1000000) :
  Calls Tryz.prog 53 #[.string kb,.slice a n c] W fun e W'=>e=.returned (.agg #[.string kb,.string ⟨#[]⟩,.int .i64 (firstF n xs),.int .i64 (lastE n xs),.slice a n c])∧Below W.heap.size W W':=by
 obtain ⟨F,hF⟩:∃ F,firstF n xs=F:=⟨_,rfl⟩;obtain ⟨E,hE⟩:∃ E,lastE n xs=E:=⟨_,rfl⟩;rw [hF,hE];obtain ⟨W1,hW1⟩:∃ X,W.alloc zeroP=X:=⟨_,rfl⟩
 have hb1:Below W.heap.size W W1:=by rw [← hW1];exact (Below.refl _ W).alloc (Nat.le_refl _) _
 have hq1:W1.heap[W.heap.size]?=some (.cells #[.string ⟨#[]⟩,.string ⟨#[]⟩,.int .i64 0,.int .i64 0,.slice none 0 0] 25 (0,0)):=by rw [← hW1];exact heap_alloc_new W _
 obtain ⟨W2,hW2⟩:∃ X,W1.alloc (.cells #[.string kb,.string ⟨#[]⟩,.int .i64 0,.int .i64 0,.slice a n c] 25)=X:=⟨_,rfl⟩
 have hb2:Below W1.heap.size W1 W2:=by rw [← hW2];exact (Below.refl _ W1).alloc (Nat.le_refl _) _
 have hq2:W2.heap[W1.heap.size]?=some (.cells #[.string kb,.string ⟨#[]⟩,.int .i64 0,.int .i64 0,.slice a n c] 25 (0,0)):=by rw [← hW2];exact heap_alloc_new W1 _
 have hz1:=(Array.getElem?_eq_some_iff.1 hq1).1;have hz2:=(Array.getElem?_eq_some_iff.1 hq2).1;obtain ⟨q,hq⟩:∃ q,W1.heap.size=q:=⟨_,rfl⟩;rw [hq] at hq2 hz1 hz2;have hq12:W2.heap[W.heap.size]?=_:=(hb2.block W.heap.size (by omega)).trans hq1;have HB12:=hid (hb1.trans (hb2.mono hb1.size));have HQ1:=hid hq12;have HQ2:=hid hq2;have HZ:=hid (And.intro hz1 hz2)
 by_cases h0:n=0
 ·have hF0:F=0:=by rw [← hF];unfold firstF;rw [if_pos h0]
  have hE0:E=0:=by rw [← hE];unfold lastE;rw [if_pos h0]
  subst hF0 hE0 h0;obtain ⟨⟨p0,p1,p2,p3,p4⟩,pz⟩:=five_cells hq2;obtain ⟨⟨r0,r1,r2,r3,r4⟩,gz⟩:=five_cells hq12;have g0:=gz 0;have g1:=gz 1;have g2:=gz 2;have g3:=gz 3;have g4:=gz 4;clear gz pz hq1 hq2 hq12 hb1 hb2 hown h5 hF hE hz1 hz2
  go_enter Tryz.func53,Tryz.ntmps53
  go_upto_region 2 with fail
  try rw [hW1]
  try rw [hW2]
  try rw [hq]
  clear hW1 hW2 hq
  go_wp2_with fail
  have hp:=set_row5 (a':=.string kb) (b':=.string ⟨#[]⟩) (c':=.int .i64 0) (d':=.int .i64 0) (e':=.slice a 0 c) HQ1.out;refine bodyPost_ret (v:=.agg #[.string kb,.string ⟨#[]⟩,.int .i64 0,.int .i64 0,.slice a 0 c]) (results_cell_row rfl _ _ W.heap.size 25 #[.string kb,.string ⟨#[]⟩,.int .i64 0,.int .i64 0,.slice a 0 c] (0,0) _ (by rfl) hp Tryz.underlying25 rfl (by kernel_rfl)) rfl ?_
  exact ⟨rfl,HB12.out.trans (((((((Below.refl W.heap.size W2).setCell (p:=⟨W.heap.size,0,none⟩) (Nat.le_refl _) _).setCell (p:=⟨W.heap.size,1,none⟩) (Nat.le_refl _) _).setCell (p:=⟨W.heap.size,2,none⟩) (Nat.le_refl _) _).setCell (p:=⟨W.heap.size,3,none⟩) (Nat.le_refl _) _).setCell (p:=⟨W.heap.size,4,none⟩) (Nat.le_refl _) _))⟩
 ·obtain ⟨k,rfl⟩:∃ k,n=k+1:=⟨n - 1,by omega⟩
  obtain ⟨f,hf⟩:=h5.first;obtain ⟨e,he⟩:=h5.last
  have hfF:f=F:=by rw [← hF];unfold firstF;rw [if_neg h0,hf];rfl
  have heE:e=E:=by rw [← hE];unfold lastE;rw [if_neg h0,Nat.add_sub_cancel,he];rfl
  subst hfF heE;have hlen:=h5.length
  rcases hown.2 with ⟨_,h1⟩|⟨g,cap,cur,h1,hBg,h3,h4,_,h6,h7⟩
  ·omega
  injection h1 with h1 _ h2
  subst h1
  have hat:∀ j u,xs[j]?=some u→W2.cell? ⟨g,j,none⟩=some u:=fun j u hj=>by
   have hgl:=(Array.getElem?_eq_some_iff.1 h3).1;have:=HB12.out.block g hgl
   unfold World.cell?
   rw [this,h3];rw [← h7,List.getElem?_take] at hj
   split at hj
   ·simpa using hj
   ·cases hj
  have t0:=hat 2 _ hf;have t1:=hat (k*5+3) _ he
  have hgq:g≠q∧g≠W.heap.size:=by
   have hgl:=(Array.getElem?_eq_some_iff.1 h3).1
   omega
  obtain ⟨⟨p0,p1,p2,p3,p4⟩,pz⟩:=five_cells hq2
  have e1:IntKind.i64.wrap (((k+1:Nat):Int) - 1)=(k:Int):=by rw [show ((k+1:Nat):Int) - 1=(k:Int) by omega];exact IntWalk.i64_in _ (by omega)
  have e2:(0:Int)<((k+1:Nat):Int):=by omega
  have e3:(k:Int)<((k+1:Nat):Int):=by omega
  have e4:(0:Int)≤(k:Int):=by omega
  have f2:=pz 2;have f3:=pz 3;obtain ⟨nn,hnn⟩:∃ u,k+1=u:=⟨_,rfl⟩;rw [hnn] at e1 e2 e3 p4 HQ2 hW2 ⊢;obtain ⟨W3,hW3⟩:∃ X,W2.setCell ⟨q,2,none⟩ (.int .i64 f)=X:=⟨_,rfl⟩
  have hq3:W3.heap[q]?=some (.cells #[.string kb,.string ⟨#[]⟩,.int .i64 f,.int .i64 0,.slice (some ⟨g,0,none⟩) nn c] 25 (0,0)):=by rw [← hW3];exact Go.Joins.block_setCell HQ2.out _
  have ho3:∀ k,k≠q→W3.heap[k]?=W2.heap[k]?:=fun k hk=>by rw [← hW3];exact Below.heap_setCell _ _ _ _ hk
  obtain ⟨W4,hW4⟩:∃ X,W3.setCell ⟨q,3,none⟩ (.int .i64 e)=X:=⟨_,rfl⟩
  have hq4:W4.heap[q]?=some (.cells #[.string kb,.string ⟨#[]⟩,.int .i64 f,.int .i64 e,.slice (some ⟨g,0,none⟩) nn c] 25 (0,0)):=by rw [← hW4];exact Go.Joins.block_setCell hq3 _
  have ho4:∀ k,k≠q→W4.heap[k]?=W3.heap[k]?:=fun k hk=>by rw [← hW4];exact Below.heap_setCell _ _ _ _ hk
  have hr4:W4.heap[W.heap.size]?=_:=(ho4 _ (by omega)).trans ((ho3 _ (by omega)).trans hq12)
  have s1:W3.cell? ⟨g,k*5+3,none⟩=some (.int .i64 e):=by rw [World.cell?_of_block (ho3 g hgq.1)];exact t1
  have HB4:Hid (Below W.heap.size W W4):=hid (by
   rw [← hW4,← hW3]
   exact (HB12.out.setCell (p:=⟨q,2,none⟩) (by show W.heap.size≤q;omega) _).setCell (p:=⟨q,3,none⟩) (by show W.heap.size≤q;omega) _)
  obtain ⟨⟨m0,m1,m2,m3,m4⟩,mz⟩:=five_cells hq3;obtain ⟨⟨l0,l1,l2,l3,l4⟩,lz⟩:=five_cells hq4;obtain ⟨⟨r0,r1,r2,r3,r4⟩,gz⟩:=five_cells hr4;have x3:=mz 3;have g0:=gz 0;have g1:=gz 1;have g2:=gz 2;have g3:=gz 3;have g4:=gz 4;have HR4:=hid hr4;clear gz pz mz lz hq1 hq2 hq12 hb1 hb2 hown h5 hF hE hat h3 h7 h4 h6 hf he t1 hq3 ho3 hq4 ho4 hr4 hlen h2
  go_enter Tryz.func53,Tryz.ntmps53
  go_upto_region 2 with fail
  try rw [hW1]
  try rw [hW2]
  try rw [hq]
  go_wp2_with fail
  have hp:=set_row5 (a':=.string kb) (b':=.string ⟨#[]⟩) (c':=.int .i64 f) (d':=.int .i64 e) (e':=.slice (some ⟨g,0,none⟩) nn c) HR4.out;refine bodyPost_ret (v:=.agg #[.string kb,.string ⟨#[]⟩,.int .i64 f,.int .i64 e,.slice (some ⟨g,0,none⟩) nn c]) (results_cell_row rfl _ _ W.heap.size 25 #[.string kb,.string ⟨#[]⟩,.int .i64 f,.int .i64 e,.slice (some ⟨g,0,none⟩) nn c] (0,0) _ (by rfl) hp Tryz.underlying25 rfl (by kernel_rfl)) rfl ?_
  exact ⟨rfl,HB4.out.trans (((((((Below.refl W.heap.size W4).setCell (p:=⟨W.heap.size,0,none⟩) (Nat.le_refl _) _).setCell (p:=⟨W.heap.size,1,none⟩) (Nat.le_refl _) _).setCell (p:=⟨W.heap.size,2,none⟩) (Nat.le_refl _) _).setCell (p:=⟨W.heap.size,3,none⟩) (Nat.le_refl _) _).setCell (p:=⟨W.heap.size,4,none⟩) (Nat.le_refl _) _))⟩
end Go.Proofs.YtmclaaonlhnbmaaGreatDoor.T
