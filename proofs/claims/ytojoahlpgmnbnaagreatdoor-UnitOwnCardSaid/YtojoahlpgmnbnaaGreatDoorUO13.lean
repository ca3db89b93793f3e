/- What the claim needs of the texts JShift, QRep, UMem, QLaw, QDecl, QWhole. -/
import Derived.Test.YtojoahlpgmnbnaaGreatDoorUOOp
import Derived.Test.YtojoahlpgmnbnaaGreatDoorUO12
import Derived.Test.YtojoahlpgmnbnaaGreatDoorUO10
import Derived.RangeFuncBox
import Derived.RangeFuncNested
import Derived.RangeFuncBound
import Derived.RangeFuncCalls
import Derived.RangeFuncLeaves
import Derived.WalkKit
import Derived.OwnWalkIn
import Derived.Lib.Hide
import Derived.LoopNIn
import Derived.LoopIn
import Derived.TacticsInMore
import Derived.Test.YtojoahlpgmnbnaaGreatDoorUO2
set_option maxRecDepth 20000
set_option maxHeartbeats 16000000
namespace Go.Proofs.YtojoahlpgmnbnaaGreatDoor
namespace J
open Go.RowKit
open Go.Lib hiding intOf
open U S T
theorem wT {W:World} {g o:Nat} {t:TypeId} {cur:Array Value} (v0 v1 v2 v3 v4:Value) (h:W.heap[g]?=some (.cells cur t (0,0))) (hs:o+5≤cur.size) :
  ∃ W' cur',((((W.setCell ⟨g,o,none⟩ v0).setCell ⟨g,o+1,none⟩ v1).setCell ⟨g,o+2,none⟩ v2).setCell ⟨g,o+3,none⟩ v3).setCell ⟨g,o+4,none⟩ v4=W'∧W'.heap[g]?=some (.cells cur' t (0,0))∧cur'.size=cur.size ∧
   (∀ j u,[v0,v1,v2,v3,v4][j]?=some u→cur'[o+j]?=some u)∧(∀ j,j<o∨o+5≤j→cur'[j]?=cur[j]?)∧(∀ k,k≠g→W'.heap[k]?=W.heap[k]?)∧∀ B,B≤g→Below B W W':=by
 have b1:∀ B,B≤g→∀ (X:World) (j:Nat) (v:Value),Below B X (X.setCell ⟨g,j,none⟩ v):=fun B hB X j v=>⟨rfl,rfl,rfl,by simp,fun k hk=>ak _ _ _ _ (by show k≠g;omega)⟩
 have s0:=az h (i:=o) v0;have s1:=az s0 (i:=o+1) v1;have s2:=az s1 (i:=o+2) v2;have s3:=az s2 (i:=o+3) v3;have s4:=az s3 (i:=o+4) v4
 refine ⟨_,_,rfl,s4,?_,?_,?_,?_,fun B hB=>((((b1 B hB _ _ _).trans (b1 B hB _ _ _)).trans (b1 B hB _ _ _)).trans (b1 B hB _ _ _)).trans (b1 B hB _ _ _)⟩
 ·simp
 ·intro j u hj
  rcases j with _|_|_|_|_|j
  ·simp at hj;subst hj;simp [aR];omega
  ·simp at hj;subst hj;simp [aR];omega
  ·simp at hj;subst hj;simp [aR];omega
  ·simp at hj;subst hj;simp [aR];omega
  ·simp at hj;subst hj;simp [aR];omega
  ·simp at hj
 ·intro j hj
  simp only [aR];rw [ai (by omega),ai (by omega),ai (by omega),ai (by omega),ai (by omega)]
 ·intro k hk
  exact (ak _ _ _ _ hk).trans ((ak _ _ _ _ hk).trans ((ak _ _ _ _ hk).trans ((ak _ _ _ _ hk).trans (ak _ _ _ _ hk))))
theorem M8 {o:Oper} {a:Act} (x y g off n i c:Nat) (W:World) (ho:o.op=.indexAddr 47 (.tmp x) (.tmp y)) (h1:a.eval (.tmp x)=.slice (some ⟨g,off,none⟩) n c) (h2:a.eval (.tmp y)=.int .i64 i) (hin:i<n):(execOp a.eval o).run Tryz.prog W=.ok (.value (.pointer (some ⟨g,off+i*5,none⟩))) W:=by
 have hm:(0:Int)≤(i:Int):=by omega
 have hm2:(i:Int)<(n:Int):=by omega
 have hr:(Instr.indexAt 47 (.slice (some ⟨g,off,none⟩) n c) (.int .i64 i)).run Tryz.prog W=.ok (.pointer (some ⟨g,off+i*5,none⟩)) W:=by
  simp [go_sem]
  intro h
  omega
 unfold execOp
 rw [ho];simp only [h1,h2,iV,hr,eP,iW]
theorem AO {c:Prop} [Decidable c] {A B:Prop} (hc:c) (hA:A):if c then A else B:=by rw [ay hc];exact hA
def JH (q:Pt) (w:World) (e:Ending) (w':World):Prop:=∃ lv,e=.returned (arg q lv)∧aT w' (fun g=>w.heap.size≤g) q lv∧Below w.heap.size w w'∧∀ (ad:Addr) (n c:Nat),lv=.slice (some ad) n c→0<n→∃ cur:Array Value,w'.heap[ad.block]?=some (.cells cur 49 (0,0))
structure BA (H g:Nat) (b:Int) (ks:List Pt) (xs:List Value) (cap i:Nat) (W:World):Prop where
 hg:H≤g
 row:∃ (cur:Array Value) (ys:List Value),W.heap[g]?=some (.cells cur 49 (0,0))∧cur.size=cap*5∧aO W (fun k=>H≤k∧k≠g) (kY b (ks.take i)) ys∧∀ (j:Nat) (u:Value),(ys++xs.drop (i*5))[j]?=some u→cur[j]?=some u
def Vr (p:Pt):Prop:=∀ (lv:Value) (R:Nat→Prop) (w:World) (b:Int),aT w R p lv→rT p≤1099511627776 →
 Calls Tryz.prog 38 #[arg p lv,.int .i64 b] w (JH (lV b p) w)
theorem OJ:∀ p,Vr p:=Pt.ind fun k t f e ks IH lv R w b hv hw=>by
 obtain ⟨a,c,rfl⟩:=eF hv;obtain ⟨_,hcap,hrow⟩:=mU hv;have Sm:=hid IH;rw [rT] at hw;have hlb:ks.length≤1099511627776:=aJ (kX ks) (by omega);have PW:=hid (fun v (h:v∈ks)=>aJ (wQ h) (show oF ks≤1099511627776 by omega))
 obtain ⟨xs,hp,hc,hl⟩:∃ xs,aO w R ks xs∧(ks.length=0∨∃ g off,a=some ⟨g,off,none⟩∧dK w g off xs)∧xs.length=ks.length*5:=by
  rcases hrow with rfl|⟨g,off,xs,rfl,_,h2,h3⟩
  ·exact ⟨[],rfl,.inl rfl,rfl⟩
  ·exact ⟨xs,h3,.inr ⟨g,off,rfl,h2⟩,by have:=aO.length h3;omega⟩
 have HP:=hid hp;have HC:=hid hc;have Vm:=hid (Ah hp);obtain ⟨n,hn⟩:∃ n,ks.length=n:=⟨_,rfl⟩;have HN:=hid hn;rw [hn] at hlb hl;have HL:=hid hl;obtain ⟨f1,hf1⟩:∃ x,moved f e f b=x:=⟨_,rfl⟩;obtain ⟨e1,he1⟩:∃ x,moved f e e b=x:=⟨_,rfl⟩;obtain ⟨kb,hkb⟩:∃ x,aU k=x:=⟨_,rfl⟩;obtain ⟨tb,htb⟩:∃ x,aU t=x:=⟨_,rfl⟩
 have HFin:Hid (∀ (W:World) (va:Option Addr) (vc:Nat),Below w.heap.size w W→(n=0∨∃ g ys,va=some ⟨g,0,none⟩∧n≤vc∧w.heap.size≤g∧dK W g 0 ys∧aO W (fun k=>w.heap.size≤k) (kY b ks) ys∧∃ cur:Array Value,W.heap[g]?=some (.cells cur 49 (0,0))) →
   JH (lV b (.mk k t f e ks)) w (.returned (.agg #[.string kb,.string tb,.int .i64 f1,.int .i64 e1,.slice va n vc])) W):=hid (fun W va vc hb h=>by
  have hq:lV b (.mk k t f e ks)=.mk k t f1 e1 (kY b ks):=by rw [lV,hf1,he1]
  rw [hq]
  refine ⟨.slice va n vc,by rw [arg,five,hkb,htb],?_,hb,fun ad n' c' hx hp=>?_⟩
  rotate_left
  ·simp only [cZ] at hx
   obtain ⟨rfl,rfl,rfl⟩:=hx
   rcases h with h0|⟨g,ys,h0,_,_,_,_,h5⟩
   ·omega
   ·cases h0;exact h5
  rcases h with h0|⟨g,ys,rfl,h1,h2,h3,h4,_⟩
  ·have hk0:ks=[]:=eG (by rw [hn];exact h0)
   subst hk0;refine ⟨va,vc,?_,aL _,.inl rfl⟩;rw [h0];rfl
  ·refine ⟨some ⟨g,0,none⟩,vc,by rw [lu,hn],by rw [lu,hn];exact h1,.inr ⟨g,0,ys,rfl,h2,h3,h4⟩⟩)
 obtain ⟨q,hq⟩:∃ q,lV b (.mk k t f e ks)=q:=⟨_,rfl⟩;rw [hq] at HFin ⊢;simp only [arg,five];rw [hn,hkb,htb];have Ev:=hid hf1;have YH:=hid he1;clear hv hrow IH hw hp hc hl hn hcap hkb htb hq hf1 he1
 have go:∀ X:World,Below w.heap.size w X→(n=0∨∃ g off,a=some ⟨g,off,none⟩∧dK X g off xs):=fun X hX=>by
  rw [← HN.out]
  exact HC.out.imp id (fun ⟨g,off,h1,h2⟩=>⟨g,off,h1,fun j u hj=>(hX.cell (bB w _ (h2 j u hj))).trans (h2 j u hj)⟩)
 have HGo:=hid go;clear go HC
 go_enter Tryz.func38,Tryz.ntmps38
 by_cases hz:f=0∧e=0
 ·have hzz:=hz
  obtain ⟨rfl,rfl⟩:=hzz
  go_upto_region 4 with fail
  obtain ⟨w1,hw1,hq1,hr1,hb1,hz1⟩:=qK w (.cells #[.string kb,.string tb,.int .i64 0,.int .i64 0,.slice a n c] 49) (.cells #[.string ⟨#[]⟩,.string ⟨#[]⟩,.int .i64 0,.int .i64 0,.slice none 0 0] 49);rw [hw1]
  have hfe:f1=0∧e1=0:=by rw [← Ev.out,← YH.out];simp [moved]
  obtain ⟨rfl,rfl⟩:=hfe;have HQ:=hid hq1;have HR:=hid hr1;have HB:=hid hb1;have HZ:=hid hz1;clear hw1 hq1 hr1 hb1 hz1 hz;have cC:=Fu (w:=w1) (c:=c) (HGo.out _ HB.out) HL.out Vm.out hlb;obtain ⟨⟨k0,k1,k2,k3,k4⟩,kf⟩:=cr HQ.out
  go_wp2_with fail
  refine cC.mono ?_;rintro ee w2 ⟨v',rfl,bY,hb2⟩;obtain ⟨va,vc,rfl⟩:=fD bY;have hq2:=(hb2.block _ (by have:=HZ.out;omega)).trans HQ.out;have hr2:=(hb2.block _ HZ.out).trans HR.out;obtain ⟨⟨k0,k1,k2,k3,k4⟩,kf⟩:=cr hq2;have Bz:=hid hq2;have HR2:=hid hr2;have uo:=hid bY;have HB2:=hid (HB.out.trans (hb2.mono HB.out.size));have HZ2:=hid (aD HZ.out hb2.size);clear cC hq2 hr2 bY hb2 HQ HR HGo
  go_upto_region 5 with fail
  have hq3:(w2.setCell ⟨w.heap.size,4,none⟩ (.slice va n vc)).heap[w.heap.size]?=some (.cells #[.string kb,.string tb,.int .i64 0,.int .i64 0,.slice va n vc] 49 (0,0)):=az Bz.out _
  have hoth:∀ k,k≠w.heap.size→(w2.setCell ⟨w.heap.size,4,none⟩ (.slice va n vc)).heap[k]?=w2.heap[k]?:=fun k hk=>ak _ _ _ _ hk
  have hb3:Below w.heap.size w (w2.setCell ⟨w.heap.size,4,none⟩ (.slice va n vc)):=HB2.out.trans ⟨rfl,rfl,rfl,by simp,fun k hk=>hoth k (by omega)⟩
  have hz3:(w2.setCell ⟨w.heap.size,4,none⟩ (.slice va n vc)).heap.size=w2.heap.size:=by simp
  generalize w2.setCell ⟨w.heap.size,4,none⟩ (.slice va n vc)=w3 at hq3 hoth hb3 hz3 ⊢;have hr3:=(hoth (w.heap.size+1) (by omega)).trans HR2.out
  have JI:n=0∨∃ g,va=some ⟨g,0,none⟩∧n≤vc∧g<w3.heap.size∧g≠w.heap.size+1∧BA (w.heap.size+2) g b ks xs vc 0 w3:=by
   rcases uo.out.2 with ⟨_,h0⟩|⟨g,cap,cur,hv,h1,h2,h3,_,h4,h5⟩
   ·exact .inl h0
   ·cases hv
    have hgl:=(af.1 h2).1;have hzz:=HZ.out;refine .inr ⟨g,rfl,h3,by omega,by omega,⟨by omega,cur,[],(hoth g (by omega)).trans h2,h4,rfl,fun j u hj=>?_⟩⟩;rw [fA,Nat.zero_mul,bM,← h5,List.getElem?_take] at hj
    split at hj
    ·simpa using hj
    ·cases hj
  have PV:=hid hq3;have HR3:=hid hr3;have HB3:=hid hb3;have HH3:=hid JI;have HZ3:Hid (w.heap.size+1<w3.heap.size):=hid (by have:=HZ2.out;omega);obtain ⟨⟨k0,k1,k2,k3,k4⟩,kf⟩:=cr hq3;clear hq3 hoth hb3 hz3 hr3 JI Bz HR2 uo HB2 HZ2 HB HZ
  go_wp2_with fail
  clear k0 k1 k2 k3 k4 kf
  go_loopw [32] (fun iv wr=>∃ i:Nat,iv=.int .i64 i∧i≤n∧Hid (Below w.heap.size w wr)∧Hid (wr.heap[w.heap.size]?=some (.cells #[.string kb,.string tb,.int .i64 0,.int .i64 0,.slice va n vc] 49 (0,0)))∧Hid (wr.heap[w.heap.size+1]?=some (.cells #[.string ⟨#[]⟩,.string ⟨#[]⟩,.int .i64 0,.int .i64 0,.slice none 0 0] 49 (0,0))) ∧
    Hid (n=0∨∃ g,va=some ⟨g,0,none⟩∧n≤vc∧g<wr.heap.size∧g≠w.heap.size+1∧BA (w.heap.size+2) g b ks xs vc i wr)) (fun iv _=>n - (Go.RowKit.intOf iv).toNat)
  case atStart=>exact ⟨0,rfl,aL _,HB3,PV,HR3,HH3⟩
  case round =>
   obtain ⟨i,rfl,hi,HB,HQ,HR,HH⟩:=hrel;obtain ⟨⟨k0,k1,k2,k3,k4⟩,kf⟩:=cr HQ.out;clear HB3 PV HR3 HH3
   by_cases hlt:i<n
   ·have hll:i<ks.length:=by rw [HN.out];exact hlt
    obtain ⟨g,rfl,hnc,hgl,hg1,hH⟩:=HH.out.resolve_left (by omega);obtain ⟨hg,cur,ys,LJ,hcs,hys,hcy⟩:=hH;obtain ⟨lv,Ab,hget⟩:=wR i hll HP.out;obtain ⟨p,GR⟩:∃ p,ks[i]=p:=⟨_,rfl⟩
    have hpm:p∈ks:=by rw [← GR];exact bF hll
    have hts:=o8 b hll;rw [GR] at Ab hget hts;obtain ⟨kk,tt,ff,ee,Im⟩:=p;obtain ⟨aa,cc,rfl⟩:=eF Ab
    have hyl:ys.length=i*5:=by have:=aO.length hys;rw [lu,il] at this;omega
    have at':∀ j u,(five (.mk kk tt ff ee Im) (.slice aa Im.length cc))[j]?=some u→wr.cell? ⟨g,i*5+j,none⟩=some u:=fun j u hj=>by
     have h1:=hget j u hj;have h2:=hcy (i*5+j) u (by rw [aK (by omega),hyl,ib,show i*5+(i*5+j - i*5)=i*5+j by omega];exact h1)
     unfold World.cell?
     rw [LJ]
     exact h2
    have j0:wr.cell? ⟨g,i*5,none⟩=some (.string (aU kk)):=at' 0 _ rfl;have j1:=at' 1 _ rfl;have j2:=at' 2 _ rfl;have j3:=at' 3 _ rfl;have j4:=at' 4 _ rfl
    have cI:=fun X (hX:Below w.heap.size w X)=>(Sm.out _ hpm) (.slice aa Im.length cc) R X b (dH Ab hX) (PW.out _ hpm)
    simp only [arg,five] at cI;obtain ⟨y0,hy0⟩:∃ x,aU kk=x:=⟨_,rfl⟩;obtain ⟨y1,hy1⟩:∃ x,aU tt=x:=⟨_,rfl⟩;obtain ⟨z0,hz0⟩:∃ x,Im.length=x:=⟨_,rfl⟩;rw [hy0] at j0 cI;rw [hy1] at j1 cI;rw [hz0] at j4 cI;obtain ⟨sq,hsq⟩:∃ x,lV b (.mk kk tt ff ee Im)=x:=⟨_,rfl⟩;rw [hsq] at cI hts;have HCI:=hid cI;have JJ:=hid (BA.mk hg ⟨cur,ys,LJ,hcs,hys,hcy⟩);have HTS:=hid hts;have HG:=hid (And.intro hnc (And.intro hgl hg1));clear LJ hcs hys hcy Ab hget GR hpm hts at' cI hy0 hy1 hz0 hsq hg HH hnc hgl hg1 hyl
    go_upto_region 8 with fail
    obtain ⟨w4,hw4,hq4,hb4,Ef⟩:=ic wr (.cells #[.string y0,.string y1,.int .i64 ff,.int .i64 ee,.slice aa z0 cc] 49);rw [hw4];obtain ⟨KB,hK⟩:∃ KB,wr.heap.size=KB:=⟨_,rfl⟩;have ZT:=hid hK;rw [hK] at hq4 hb4 Ef ⊢
    have NI:w.heap.size+1<KB:=by have:=HR.out;have:=(af.1 this).1;omega
    have hq:=(hb4.block w.heap.size (by omega)).trans HQ.out;have hr:=(hb4.block (w.heap.size+1) NI).trans HR.out;have afb:w.heap.size+2≤KB:=NI;have hB4:Below w.heap.size w w4:=HB.out.trans (hb4.mono (by omega))
    have hH4:BA (w.heap.size+2) g b ks xs vc i w4:=by
     obtain ⟨a1,cur,ys,a2,a3,a4,a5⟩:=JJ.out
     exact ⟨a1,cur,ys,(hb4.block g (by have:=HG.out.2.1;omega)).trans a2,a3,aO.later (fun k hk hkl=>hb4.block k (by omega)) (fun _ h=>h) _ _ a4,a5⟩
    have JA:=hid hq4;have uR:=hid hB4;have HH4:=hid hH4;have HP4:=hid hq;have HR4:=hid hr;have kH:=hid Ef;have TT:=hid NI;clear hw4 hq4 hb4 Ef hK NI hq hr hB4 hH4 j0 j1 j2 j3 j4 k0 k1 k2 k3 k4 kf HB HQ HR JJ
    refine aS (S:=fun X=>Below w.heap.size w X∧X.heap[w.heap.size]?=some (.cells #[.string kb,.string tb,.int .i64 0,.int .i64 0,.slice (some ⟨g,0,none⟩) n vc] 49 (0,0))∧X.heap[KB]?=some (.cells #[.string y0,.string y1,.int .i64 ff,.int .i64 ee,.slice aa z0 cc] 49 (0,0))) (by kernel_rfl) ⟨uR.out.drew,HP4.out,JA.out⟩ fun ag=>?_
    have HD1:Hid (BA (w.heap.size+2) g b ks xs vc i w4.drew):=hid (by
     obtain ⟨a1,cur,ys,a2,a3,a4,a5⟩:=HH4.out
     exact ⟨a1,cur,ys,a2,a3,si a4 ((aj _ _).drew),a5⟩)
    have HD2:Hid (w4.drew.heap[w.heap.size+1]?=_):=hid HR4.out;have HD3:Hid (KB<w4.drew.heap.size):=hid kH.out;obtain ⟨V,hV⟩:∃ V,w4.drew=V:=⟨_,rfl⟩;rw [hV] at ag HD1 HD2 HD3 ⊢;clear hV HH4 HR4 kH uR HP4 JA;refine OP.m 0 rfl (.pointer (some ⟨w.heap.size,4,none⟩)) ag ?_;simp only [OP.s];refine OP.t 1 rfl (.slice (some ⟨g,0,none⟩) n vc) (fun X hX=>by have q:=(cr hX.2.1).1.2.2.2.2;go_simp) ag ?_;simp only [OP.s];refine OP.m 2 rfl (.int .i64 i) ag ?_;simp only [OP.s];refine OP.t 3 rfl (.agg #[.string y0,.string y1,.int .i64 ff,.int .i64 ee,.slice aa z0 cc]) (fun X hX=>by obtain ⟨q0,q1,q2,q3,q4⟩:=(cr hX.2.2).1;go_simp) ag ?_;simp only [OP.s];refine OP.m 4 rfl (.int .i64 b) ag ?_;simp only [OP.s]
    refine OP.r 5 rfl fun K hK=>?_
    go_simp
    go_at_call 38
    refine (HCI.out V ag.1).mono ?_;rintro e' w5 ⟨lv5,rfl,hk5,hb5,_⟩;have TQ:w.heap.size≤V.heap.size:=ag.1.size;have hS5:Below w.heap.size w w5∧w5.heap[w.heap.size]?=_∧w5.heap[KB]?=_:=⟨ag.1.trans (hb5.mono TQ),(hb5.block _ (by have:=TT.out;have:=HD3.out;omega)).trans ag.2.1,(hb5.block _ HD3.out).trans ag.2.2⟩;dsimp only;refine hK.out _ _ (hS5) (fun rM=>?_)
    try simp only [OP.s]
    clear hK K;obtain ⟨sk,st,sf,se,YI⟩:=sq;obtain ⟨sa,sc,rfl⟩:=eF hk5;simp only [arg,five];refine OP.t 6 rfl (.pointer (some ⟨g,i*5,none⟩)) (fun X hX=>(M8 38 39 g 0 n i vc X rfl rfl rfl hlt).trans (by rw [bz])) rM ?_;simp only [OP.s];obtain ⟨a1,cur,ys,a2,a3,a4,a5⟩:=HD1.out;have hVg:g<V.heap.size:=(af.1 a2).1;have c2:=(hb5.block g hVg).trans a2;have hnc:=HG.out.1
    have hsz:i*5+5≤cur.size:=by omega
    obtain ⟨W',cur',wZ,d1,d2,d3,d4,d5,d6⟩:=wT (.string (aU sk)) (.string (aU st)) (.int .i64 sf) (.int .i64 se) (.slice sa YI.length sc) c2 hsz
    have cl:∀ j,j<5→∃ u,w5.cell? ⟨g,i*5+j,none⟩=some u:=fun j hj=>by
     have hj5:i*5+j<cur.size:=aD (Nat.add_lt_add_left hj _) hsz
     unfold World.cell?;rw [c2];exact ⟨cur[i*5+j]'hj5,gG hj5⟩
    obtain ⟨u0,q0⟩:∃ u,w5.cell? ⟨g,i*5,none⟩=some u:=cl 0 (by omega);obtain ⟨u1,q1⟩:=cl 1 (by omega);obtain ⟨u2,q2⟩:=cl 2 (by omega);obtain ⟨u3,q3⟩:=cl 3 (by omega);obtain ⟨u4,q4⟩:=cl 4 (by omega)
    have qf:∀ j,w5.frozen? ⟨g,j,none⟩=false:=fun j=>by simp [World.frozen?,c2]
    have hgK:g≠KB:=by have:=HG.out.2.1;have:=ZT.out;omega
    have Sq:g≠w.heap.size:=by omega
    have hgQ:g≠w.heap.size+1:=HG.out.2.2;have PS:Below w.heap.size w W'∧W'.heap[w.heap.size]?=_∧W'.heap[KB]?=_:=⟨hS5.1.trans (d6 _ (by omega)),(d5 _ (fun h=>Sq h.symm)).trans hS5.2.1,(d5 _ (fun h=>hgK h.symm)).trans hS5.2.2⟩
    have hHf:BA (w.heap.size+2) g b ks xs vc (i+1) W':=by
     have hyl:ys.length=i*5:=by have h:=aO.length a4;rw [lu,il] at h;have:=HN.out;omega
     refine ⟨a1,cur',ys++five (.mk sk st sf se YI) (.slice sa YI.length sc),d1,by rw [d2];exact a3,?_,fun j u hj=>?_⟩
     ·rw [HTS.out]
      refine aO.snoc (aO.later (fun k hk hkl=>(d5 k hk.2).trans (hb5.block k hkl)) (fun _ h=>h) _ _ a4) (aT.later (fun k hk _=>d5 k (by omega)) (fun k hk=>⟨by have:=TQ;have:=HD3.out;have:=TT.out;omega,by omega⟩) _ _ hk5)
     ·by_cases h1:j<i*5
      ·rw [d4 j (.inl h1)]
       refine a5 j u ?_;rw [dC,bn (by omega)] at hj;rw [bn (by omega)];exact hj
      ·by_cases h2:j<i*5+5
       ·obtain ⟨m,rfl⟩:∃ m,j=i*5+m:=⟨j - i*5,by omega⟩
        rw [dC,aK (by omega),hyl,show i*5+m - i*5=m by omega,bn (by rw [eO];omega)] at hj
        exact d3 m u hj
       ·rw [d4 j (.inr (by omega))]
        refine a5 j u ?_;rw [aK (by rw [aM,eO];omega),aM,eO,ib] at hj;rw [aK (by omega),ib,← hj]
        congr 1
        omega
    have hr5:=(d5 (w.heap.size+1) (fun h=>hgQ h.symm)).trans ((hb5.block _ (by have:=HD3.out;have:=TT.out;omega)).trans HD2.out);have hgs:g<W'.heap.size:=(af.1 d1).1;have YJ:=hid PS;have HHf:=hid hHf;have uV:=hid hr5;have HGS:=hid hgs;clear a1 a2 a3 a4 a5 c2 hsz cl d1 d2 d3 d4 d5 d6 hHf hr5 hgs hk5 hb5 hS5 hVg hgK Sq hgQ
    refine OP.r 7 rfl fun K hK=>?_
    go_simp
    refine hK.out _ _ (YJ.out) (fun xV=>?_)
    try simp only [OP.s]
    clear hK K;clear q0 q1 q2 q3 q4 qf wZ PS xV rM ag;refine bL (by kernel_rfl) ?_ _
    go_wp2_with fail
    go_roundw
    case rel=>exact ⟨i+1,by go_num,by omega,hid YJ.out.1,hid YJ.out.2.1,uV,hid (.inr ⟨g,rfl,HG.out.1,HGS.out,HG.out.2.2,HHf.out⟩)⟩
    case measure=>simp [Go.RowKit.intOf];omega
   ·obtain rfl:i=n:=by omega
    have hk:i=0∨∃ g ys,va=some ⟨g,0,none⟩∧i≤vc∧w.heap.size+2≤g∧dK wr g 0 ys∧aO wr (fun k=>w.heap.size+2≤k) (kY b ks) ys∧∃ cur:Array Value,wr.heap[g]?=some (.cells cur 49 (0,0)):=by
     refine HH.out.imp id ?_;rintro ⟨g,h1,h2,h3,h4,h5⟩;obtain ⟨a1,cur,ys,a2,a3,a4,a5⟩:=h5;rw [bX (by rw [HN.out];exact ae _)] at a4;have hdrop:xs.drop (i*5)=[]:=List.drop_eq_nil_of_le (by rw [HL.out];exact ae _);rw [hdrop,eB] at a5;refine ⟨g,ys,h1,h2,a1,fun j u hj=>?_,aO.later (fun _ _ _=>rfl) (fun _ h=>h.1) _ _ a4,cur,a2⟩;rw [bz];unfold World.cell?;rw [a2];exact a5 j u hj
    have HK:=hid hk;obtain ⟨⟨l0,l1,l2,l3,l4⟩,lf⟩:=cr HR.out;clear hk
    go_wp2_with fail
    obtain ⟨Wf,hWf,f0,pP,hbf⟩:=vS (.string kb) (.string tb) (.int .i64 0) (.int .i64 0) (.slice va i vc) HR.out;rw [hWf];obtain ⟨⟨y0,y1,y2,y3,y4⟩,_⟩:=cr f0
    have hfin:=HFin.out Wf va vc (HB.out.trans (hbf _ (by omega))) (HK.out.imp id (fun ⟨g,ys,h1,h2,h3,h4,h5,h7⟩=>⟨g,ys,h1,h2,by omega,fun j u hj=>by
     have h6:=h4 j u hj
     unfold World.cell? at h6 ⊢
     rw [pP g (by omega)];exact h6,aO.later (fun k hk _=>pP k (by omega)) (fun k hk=>by omega) _ _ h5,h7.imp (fun _ h=>(pP g (by omega)).trans h)⟩))
    clear hWf f0 pP hbf l0 l1 l2 l3 l4 lf k0 k1 k2 k3 k4 kf
    simp [bodyPost,results,Tryz.results38,go_sem,y0,y1,y2,y3,y4]
    exact hfin
 by_cases hf0:f=0
 focus
  have he0:¬ e=0:=fun h=>hz ⟨hf0,h⟩
  subst hf0
  have q1:((e:Int) != 0)=true:=by simpa using he0
  have q2:((e:Int)==0)=false:=by simpa using he0
  have hfe:wrap64 b=f1∧wrap64 (e+b)=e1:=by rw [← Ev.out,← YH.out];unfold moved;rw [ai hz,ai hz,Int.zero_add];exact ⟨rfl,rfl⟩
  go_upto_region 4 with fail
  rw [hfe.1,hfe.2];obtain ⟨w1,hw1,hq1,hr1,hb1,hz1⟩:=qK w (.cells #[.string kb,.string tb,.int .i64 f1,.int .i64 e1,.slice a n c] 49) (.cells #[.string ⟨#[]⟩,.string ⟨#[]⟩,.int .i64 0,.int .i64 0,.slice none 0 0] 49);rw [hw1];have HQ:=hid hq1;have HR:=hid hr1;have HB:=hid hb1;have HZ:=hid hz1;clear hw1 hq1 hr1 hb1 hz1 hz hfe he0 q1 q2
 rotate_left
 focus
  have q1:((f:Int) != 0)=true:=by simpa using hf0
  have q2:((f:Int)==0)=false:=by simpa using hf0
  have hfe:wrap64 (f+b)=f1∧wrap64 (e+b)=e1:=by rw [← Ev.out,← YH.out];unfold moved;rw [ai hz,ai hz];exact ⟨rfl,rfl⟩
  go_upto_region 4 with fail
  rw [hfe.1,hfe.2];obtain ⟨w1,hw1,hq1,hr1,hb1,hz1⟩:=qK w (.cells #[.string kb,.string tb,.int .i64 f1,.int .i64 e1,.slice a n c] 49) (.cells #[.string ⟨#[]⟩,.string ⟨#[]⟩,.int .i64 0,.int .i64 0,.slice none 0 0] 49);rw [hw1];have HQ:=hid hq1;have HR:=hid hr1;have HB:=hid hb1;have HZ:=hid hz1;clear hw1 hq1 hr1 hb1 hz1 hz hfe hf0 q1 q2
 rotate_left
 all_goals
  have cC:=Fu (w:=w1) (c:=c) (HGo.out _ HB.out) HL.out Vm.out hlb;obtain ⟨⟨k0,k1,k2,k3,k4⟩,kf⟩:=cr HQ.out
  go_wp2_with fail
  refine cC.mono ?_;rintro ee w2 ⟨v',rfl,bY,hb2⟩;obtain ⟨va,vc,rfl⟩:=fD bY;have hq2:=(hb2.block _ (by have:=HZ.out;omega)).trans HQ.out;have hr2:=(hb2.block _ HZ.out).trans HR.out;obtain ⟨⟨k0,k1,k2,k3,k4⟩,kf⟩:=cr hq2;have Bz:=hid hq2;have HR2:=hid hr2;have uo:=hid bY;have HB2:=hid (HB.out.trans (hb2.mono HB.out.size));have HZ2:=hid (aD HZ.out hb2.size);clear cC hq2 hr2 bY hb2 HQ HR HGo
  go_upto_region 5 with fail
  have hq3:(w2.setCell ⟨w.heap.size,4,none⟩ (.slice va n vc)).heap[w.heap.size]?=some (.cells #[.string kb,.string tb,.int .i64 f1,.int .i64 e1,.slice va n vc] 49 (0,0)):=az Bz.out _
  have hoth:∀ k,k≠w.heap.size→(w2.setCell ⟨w.heap.size,4,none⟩ (.slice va n vc)).heap[k]?=w2.heap[k]?:=fun k hk=>ak _ _ _ _ hk
  have hb3:Below w.heap.size w (w2.setCell ⟨w.heap.size,4,none⟩ (.slice va n vc)):=HB2.out.trans ⟨rfl,rfl,rfl,by simp,fun k hk=>hoth k (by omega)⟩
  have hz3:(w2.setCell ⟨w.heap.size,4,none⟩ (.slice va n vc)).heap.size=w2.heap.size:=by simp
  generalize w2.setCell ⟨w.heap.size,4,none⟩ (.slice va n vc)=w3 at hq3 hoth hb3 hz3 ⊢;have hr3:=(hoth (w.heap.size+1) (by omega)).trans HR2.out
  have JI:n=0∨∃ g,va=some ⟨g,0,none⟩∧n≤vc∧g<w3.heap.size∧g≠w.heap.size+1∧BA (w.heap.size+2) g b ks xs vc 0 w3:=by
   rcases uo.out.2 with ⟨_,h0⟩|⟨g,cap,cur,hv,h1,h2,h3,_,h4,h5⟩
   ·exact .inl h0
   ·cases hv
    have hgl:=(af.1 h2).1;have hzz:=HZ.out;refine .inr ⟨g,rfl,h3,by omega,by omega,⟨by omega,cur,[],(hoth g (by omega)).trans h2,h4,rfl,fun j u hj=>?_⟩⟩;rw [fA,Nat.zero_mul,bM,← h5,List.getElem?_take] at hj
    split at hj
    ·simpa using hj
    ·cases hj
  have PV:=hid hq3;have HR3:=hid hr3;have HB3:=hid hb3;have HH3:=hid JI;have HZ3:Hid (w.heap.size+1<w3.heap.size):=hid (by have:=HZ2.out;omega);obtain ⟨⟨k0,k1,k2,k3,k4⟩,kf⟩:=cr hq3;clear hq3 hoth hb3 hz3 hr3 JI Bz HR2 uo HB2 HZ2 HB HZ
  go_wp2_with fail
  clear k0 k1 k2 k3 k4 kf
  go_loopw [32] (fun iv wr=>∃ i:Nat,iv=.int .i64 i∧i≤n∧Hid (Below w.heap.size w wr)∧Hid (wr.heap[w.heap.size]?=some (.cells #[.string kb,.string tb,.int .i64 f1,.int .i64 e1,.slice va n vc] 49 (0,0)))∧Hid (wr.heap[w.heap.size+1]?=some (.cells #[.string ⟨#[]⟩,.string ⟨#[]⟩,.int .i64 0,.int .i64 0,.slice none 0 0] 49 (0,0))) ∧
    Hid (n=0∨∃ g,va=some ⟨g,0,none⟩∧n≤vc∧g<wr.heap.size∧g≠w.heap.size+1∧BA (w.heap.size+2) g b ks xs vc i wr)) (fun iv _=>n - (Go.RowKit.intOf iv).toNat)
  case atStart=>exact ⟨0,rfl,aL _,HB3,PV,HR3,HH3⟩
  case round =>
   obtain ⟨i,rfl,hi,HB,HQ,HR,HH⟩:=hrel;obtain ⟨⟨k0,k1,k2,k3,k4⟩,kf⟩:=cr HQ.out;clear HB3 PV HR3 HH3
   by_cases hlt:i<n
   ·have hll:i<ks.length:=by rw [HN.out];exact hlt
    obtain ⟨g,rfl,hnc,hgl,hg1,hH⟩:=HH.out.resolve_left (by omega);obtain ⟨hg,cur,ys,LJ,hcs,hys,hcy⟩:=hH;obtain ⟨lv,Ab,hget⟩:=wR i hll HP.out;obtain ⟨p,GR⟩:∃ p,ks[i]=p:=⟨_,rfl⟩
    have hpm:p∈ks:=by rw [← GR];exact bF hll
    have hts:=o8 b hll;rw [GR] at Ab hget hts;obtain ⟨kk,tt,ff,ee,Im⟩:=p;obtain ⟨aa,cc,rfl⟩:=eF Ab
    have hyl:ys.length=i*5:=by have:=aO.length hys;rw [lu,il] at this;omega
    have at':∀ j u,(five (.mk kk tt ff ee Im) (.slice aa Im.length cc))[j]?=some u→wr.cell? ⟨g,i*5+j,none⟩=some u:=fun j u hj=>by
     have h1:=hget j u hj;have h2:=hcy (i*5+j) u (by rw [aK (by omega),hyl,ib,show i*5+(i*5+j - i*5)=i*5+j by omega];exact h1)
     unfold World.cell?
     rw [LJ]
     exact h2
    have j0:wr.cell? ⟨g,i*5,none⟩=some (.string (aU kk)):=at' 0 _ rfl;have j1:=at' 1 _ rfl;have j2:=at' 2 _ rfl;have j3:=at' 3 _ rfl;have j4:=at' 4 _ rfl
    have cI:=fun X (hX:Below w.heap.size w X)=>(Sm.out _ hpm) (.slice aa Im.length cc) R X b (dH Ab hX) (PW.out _ hpm)
    simp only [arg,five] at cI;obtain ⟨y0,hy0⟩:∃ x,aU kk=x:=⟨_,rfl⟩;obtain ⟨y1,hy1⟩:∃ x,aU tt=x:=⟨_,rfl⟩;obtain ⟨z0,hz0⟩:∃ x,Im.length=x:=⟨_,rfl⟩;rw [hy0] at j0 cI;rw [hy1] at j1 cI;rw [hz0] at j4 cI;obtain ⟨sq,hsq⟩:∃ x,lV b (.mk kk tt ff ee Im)=x:=⟨_,rfl⟩;rw [hsq] at cI hts;have HCI:=hid cI;have JJ:=hid (BA.mk hg ⟨cur,ys,LJ,hcs,hys,hcy⟩);have HTS:=hid hts;have HG:=hid (And.intro hnc (And.intro hgl hg1));clear LJ hcs hys hcy Ab hget GR hpm hts at' cI hy0 hy1 hz0 hsq hg HH hnc hgl hg1 hyl
    go_upto_region 8 with fail
    obtain ⟨w4,hw4,hq4,hb4,Ef⟩:=ic wr (.cells #[.string y0,.string y1,.int .i64 ff,.int .i64 ee,.slice aa z0 cc] 49);rw [hw4];obtain ⟨KB,hK⟩:∃ KB,wr.heap.size=KB:=⟨_,rfl⟩;have ZT:=hid hK;rw [hK] at hq4 hb4 Ef ⊢
    have NI:w.heap.size+1<KB:=by have:=HR.out;have:=(af.1 this).1;omega
    have hq:=(hb4.block w.heap.size (by omega)).trans HQ.out;have hr:=(hb4.block (w.heap.size+1) NI).trans HR.out;have afb:w.heap.size+2≤KB:=NI;have hB4:Below w.heap.size w w4:=HB.out.trans (hb4.mono (by omega))
    have hH4:BA (w.heap.size+2) g b ks xs vc i w4:=by
     obtain ⟨a1,cur,ys,a2,a3,a4,a5⟩:=JJ.out
     exact ⟨a1,cur,ys,(hb4.block g (by have:=HG.out.2.1;omega)).trans a2,a3,aO.later (fun k hk hkl=>hb4.block k (by omega)) (fun _ h=>h) _ _ a4,a5⟩
    have JA:=hid hq4;have uR:=hid hB4;have HH4:=hid hH4;have HP4:=hid hq;have HR4:=hid hr;have kH:=hid Ef;have TT:=hid NI;clear hw4 hq4 hb4 Ef hK NI hq hr hB4 hH4 j0 j1 j2 j3 j4 k0 k1 k2 k3 k4 kf HB HQ HR JJ
    refine aS (S:=fun X=>Below w.heap.size w X∧X.heap[w.heap.size]?=some (.cells #[.string kb,.string tb,.int .i64 f1,.int .i64 e1,.slice (some ⟨g,0,none⟩) n vc] 49 (0,0))∧X.heap[KB]?=some (.cells #[.string y0,.string y1,.int .i64 ff,.int .i64 ee,.slice aa z0 cc] 49 (0,0))) (by kernel_rfl) ⟨uR.out.drew,HP4.out,JA.out⟩ fun ag=>?_
    have HD1:Hid (BA (w.heap.size+2) g b ks xs vc i w4.drew):=hid (by
     obtain ⟨a1,cur,ys,a2,a3,a4,a5⟩:=HH4.out
     exact ⟨a1,cur,ys,a2,a3,si a4 ((aj _ _).drew),a5⟩)
    have HD2:Hid (w4.drew.heap[w.heap.size+1]?=_):=hid HR4.out;have HD3:Hid (KB<w4.drew.heap.size):=hid kH.out;obtain ⟨V,hV⟩:∃ V,w4.drew=V:=⟨_,rfl⟩;rw [hV] at ag HD1 HD2 HD3 ⊢;clear hV HH4 HR4 kH uR HP4 JA;refine OP.m 0 rfl (.pointer (some ⟨w.heap.size,4,none⟩)) ag ?_;simp only [OP.s];refine OP.t 1 rfl (.slice (some ⟨g,0,none⟩) n vc) (fun X hX=>by have q:=(cr hX.2.1).1.2.2.2.2;go_simp) ag ?_;simp only [OP.s];refine OP.m 2 rfl (.int .i64 i) ag ?_;simp only [OP.s];refine OP.t 3 rfl (.agg #[.string y0,.string y1,.int .i64 ff,.int .i64 ee,.slice aa z0 cc]) (fun X hX=>by obtain ⟨q0,q1,q2,q3,q4⟩:=(cr hX.2.2).1;go_simp) ag ?_;simp only [OP.s];refine OP.m 4 rfl (.int .i64 b) ag ?_;simp only [OP.s]
    refine OP.r 5 rfl fun K hK=>?_
    go_simp
    go_at_call 38
    refine (HCI.out V ag.1).mono ?_;rintro e' w5 ⟨lv5,rfl,hk5,hb5,_⟩;have TQ:w.heap.size≤V.heap.size:=ag.1.size;have hS5:Below w.heap.size w w5∧w5.heap[w.heap.size]?=_∧w5.heap[KB]?=_:=⟨ag.1.trans (hb5.mono TQ),(hb5.block _ (by have:=TT.out;have:=HD3.out;omega)).trans ag.2.1,(hb5.block _ HD3.out).trans ag.2.2⟩;dsimp only;refine hK.out _ _ (hS5) (fun rM=>?_)
    try simp only [OP.s]
    clear hK K;obtain ⟨sk,st,sf,se,YI⟩:=sq;obtain ⟨sa,sc,rfl⟩:=eF hk5;simp only [arg,five];refine OP.t 6 rfl (.pointer (some ⟨g,i*5,none⟩)) (fun X hX=>(M8 38 39 g 0 n i vc X rfl rfl rfl hlt).trans (by rw [bz])) rM ?_;simp only [OP.s];obtain ⟨a1,cur,ys,a2,a3,a4,a5⟩:=HD1.out;have hVg:g<V.heap.size:=(af.1 a2).1;have c2:=(hb5.block g hVg).trans a2;have hnc:=HG.out.1
    have hsz:i*5+5≤cur.size:=by omega
    obtain ⟨W',cur',wZ,d1,d2,d3,d4,d5,d6⟩:=wT (.string (aU sk)) (.string (aU st)) (.int .i64 sf) (.int .i64 se) (.slice sa YI.length sc) c2 hsz
    have cl:∀ j,j<5→∃ u,w5.cell? ⟨g,i*5+j,none⟩=some u:=fun j hj=>by
     have hj5:i*5+j<cur.size:=aD (Nat.add_lt_add_left hj _) hsz
     unfold World.cell?;rw [c2];exact ⟨cur[i*5+j]'hj5,gG hj5⟩
    obtain ⟨u0,q0⟩:∃ u,w5.cell? ⟨g,i*5,none⟩=some u:=cl 0 (by omega);obtain ⟨u1,q1⟩:=cl 1 (by omega);obtain ⟨u2,q2⟩:=cl 2 (by omega);obtain ⟨u3,q3⟩:=cl 3 (by omega);obtain ⟨u4,q4⟩:=cl 4 (by omega)
    have qf:∀ j,w5.frozen? ⟨g,j,none⟩=false:=fun j=>by simp [World.frozen?,c2]
    have hgK:g≠KB:=by have:=HG.out.2.1;have:=ZT.out;omega
    have Sq:g≠w.heap.size:=by omega
    have hgQ:g≠w.heap.size+1:=HG.out.2.2;have PS:Below w.heap.size w W'∧W'.heap[w.heap.size]?=_∧W'.heap[KB]?=_:=⟨hS5.1.trans (d6 _ (by omega)),(d5 _ (fun h=>Sq h.symm)).trans hS5.2.1,(d5 _ (fun h=>hgK h.symm)).trans hS5.2.2⟩
    have hHf:BA (w.heap.size+2) g b ks xs vc (i+1) W':=by
     have hyl:ys.length=i*5:=by have h:=aO.length a4;rw [lu,il] at h;have:=HN.out;omega
     refine ⟨a1,cur',ys++five (.mk sk st sf se YI) (.slice sa YI.length sc),d1,by rw [d2];exact a3,?_,fun j u hj=>?_⟩
     ·rw [HTS.out]
      refine aO.snoc (aO.later (fun k hk hkl=>(d5 k hk.2).trans (hb5.block k hkl)) (fun _ h=>h) _ _ a4) (aT.later (fun k hk _=>d5 k (by omega)) (fun k hk=>⟨by have:=TQ;have:=HD3.out;have:=TT.out;omega,by omega⟩) _ _ hk5)
     ·by_cases h1:j<i*5
      ·rw [d4 j (.inl h1)]
       refine a5 j u ?_;rw [dC,bn (by omega)] at hj;rw [bn (by omega)];exact hj
      ·by_cases h2:j<i*5+5
       ·obtain ⟨m,rfl⟩:∃ m,j=i*5+m:=⟨j - i*5,by omega⟩
        rw [dC,aK (by omega),hyl,show i*5+m - i*5=m by omega,bn (by rw [eO];omega)] at hj
        exact d3 m u hj
       ·rw [d4 j (.inr (by omega))]
        refine a5 j u ?_;rw [aK (by rw [aM,eO];omega),aM,eO,ib] at hj;rw [aK (by omega),ib,← hj]
        congr 1
        omega
    have hr5:=(d5 (w.heap.size+1) (fun h=>hgQ h.symm)).trans ((hb5.block _ (by have:=HD3.out;have:=TT.out;omega)).trans HD2.out);have hgs:g<W'.heap.size:=(af.1 d1).1;have YJ:=hid PS;have HHf:=hid hHf;have uV:=hid hr5;have HGS:=hid hgs;clear a1 a2 a3 a4 a5 c2 hsz cl d1 d2 d3 d4 d5 d6 hHf hr5 hgs hk5 hb5 hS5 hVg hgK Sq hgQ
    refine OP.r 7 rfl fun K hK=>?_
    go_simp
    refine hK.out _ _ (YJ.out) (fun xV=>?_)
    try simp only [OP.s]
    clear hK K;clear q0 q1 q2 q3 q4 qf wZ PS xV rM ag;refine bL (by kernel_rfl) ?_ _
    go_wp2_with fail
    go_roundw
    case rel=>exact ⟨i+1,by go_num,by omega,hid YJ.out.1,hid YJ.out.2.1,uV,hid (.inr ⟨g,rfl,HG.out.1,HGS.out,HG.out.2.2,HHf.out⟩)⟩
    case measure=>simp [Go.RowKit.intOf];omega
   ·obtain rfl:i=n:=by omega
    have hk:i=0∨∃ g ys,va=some ⟨g,0,none⟩∧i≤vc∧w.heap.size+2≤g∧dK wr g 0 ys∧aO wr (fun k=>w.heap.size+2≤k) (kY b ks) ys∧∃ cur:Array Value,wr.heap[g]?=some (.cells cur 49 (0,0)):=by
     refine HH.out.imp id ?_;rintro ⟨g,h1,h2,h3,h4,h5⟩;obtain ⟨a1,cur,ys,a2,a3,a4,a5⟩:=h5;rw [bX (by rw [HN.out];exact ae _)] at a4;have hdrop:xs.drop (i*5)=[]:=List.drop_eq_nil_of_le (by rw [HL.out];exact ae _);rw [hdrop,eB] at a5;refine ⟨g,ys,h1,h2,a1,fun j u hj=>?_,aO.later (fun _ _ _=>rfl) (fun _ h=>h.1) _ _ a4,cur,a2⟩;rw [bz];unfold World.cell?;rw [a2];exact a5 j u hj
    have HK:=hid hk;obtain ⟨⟨l0,l1,l2,l3,l4⟩,lf⟩:=cr HR.out;clear hk
    go_wp2_with fail
    obtain ⟨Wf,hWf,f0,pP,hbf⟩:=vS (.string kb) (.string tb) (.int .i64 f1) (.int .i64 e1) (.slice va i vc) HR.out;rw [hWf];obtain ⟨⟨y0,y1,y2,y3,y4⟩,_⟩:=cr f0
    have hfin:=HFin.out Wf va vc (HB.out.trans (hbf _ (by omega))) (HK.out.imp id (fun ⟨g,ys,h1,h2,h3,h4,h5,h7⟩=>⟨g,ys,h1,h2,by omega,fun j u hj=>by
     have h6:=h4 j u hj
     unfold World.cell? at h6 ⊢
     rw [pP g (by omega)];exact h6,aO.later (fun k hk _=>pP k (by omega)) (fun k hk=>by omega) _ _ h5,h7.imp (fun _ h=>(pP g (by omega)).trans h)⟩))
    clear hWf f0 pP hbf l0 l1 l2 l3 l4 lf k0 k1 k2 k3 k4 kf
    simp [bodyPost,results,Tryz.results38,go_sem,y0,y1,y2,y3,y4]
    exact hfin
end J
namespace Q
open Go.RowKit
open Go.Lib hiding intOf
open U S L
def Vs (p:su):List Value:=[.int .i64 p.f,.int .i64 p.e,.bool p.d,.bool p.j]
def lX:List su→List Value
 | []=>[]
 | p :: r=>Vs p++lX r
theorem jo:∀ l:List su,(lX l).length=4*l.length
 | []=>rfl
 | d :: r=>by simp only [lX,aM,jo r,aH,Vs,dM];omega
theorem mX:∀ (a b:List su),lX (a++b)=lX a++lX b
 | [],b=>rfl
 | d :: r,b=>by simp only [bH,lX,mX r b,dC]
theorem y8:∀ (l:List su) (i j:Nat) (hi:i<l.length),j<4→(lX l)[i*4+j]?=(Vs l[i])[j]?
 | [],i,j,hi,_=>by simp at hi
 | d :: r,0,j,hi,hj=>by simp only [lX,Nat.zero_mul,bz,List.getElem_cons_zero];rw [bn (by simp [Vs];omega)]
 | d :: r,i+1,j,hi,hj=>by
  simp only [lX,List.getElem_cons_succ];rw [aK (by simp [Vs];omega),show (i+1)*4+j - (Vs d).length=i*4+j by simp [Vs];omega]
  exact y8 r i j (by simpa using hi) hj
def Sr (W:World) (g off:Nat) (l:List su):Prop:=∀ j u,(lX l)[j]?=some u→W.cell? ⟨g,off+j,none⟩=some u
theorem M9 {W:World} {l:List su} {g off:Nat} (i:Nat) (hc:Sr W g off l) (hi:i<l.length) :
  W.cell? ⟨g,off+i*4,none⟩=some (.int .i64 l[i].f)∧W.cell? ⟨g,off+i*4+1,none⟩=some (.int .i64 l[i].e)∧W.cell? ⟨g,off+i*4+2,none⟩=some (.bool l[i].d)∧W.cell? ⟨g,off+i*4+3,none⟩=some (.bool l[i].j):=by
 refine ⟨hc (i*4) _ ?_,hc (i*4+1) _ (by rw [y8 l i 1 hi (by omega)];rfl),hc (i*4+2) _ (by rw [y8 l i 2 hi (by omega)];rfl),hc (i*4+3) _ (by rw [y8 l i 3 hi (by omega)];rfl)⟩;have:=y8 l i 0 hi (by omega);rw [bS] at this;rw [this];rfl
def Dr (B:Nat) (W:World) (l:List su) (v:Value):Prop:=∃ a cap,v=.slice a l.length cap∧l.length≤cap∧(l=[]∨∃ g off,a=some ⟨g,off,none⟩∧B≤g∧g<W.heap.size∧Sr W g off l)
theorem Dr.later {B:Nat} {W W':World} {l:List su} {v:Value} (h:Dr B W l v) (hb:Below W.heap.size W W'):Dr B W' l v:=by
 obtain ⟨a,cap,h1,h2,h3⟩:=h;refine ⟨a,cap,h1,h2,?_⟩
 rcases h3 with h3|⟨g,off,h4,h5,h6,h7⟩
 ·exact .inl h3
 ·exact .inr ⟨g,off,h4,h5,aD h6 hb.size,fun j u hj=>(hb.cell (p:=⟨g,off+j,none⟩) h6).trans (h7 j u hj)⟩
theorem YK {w:World} {B n c g:Nat} {l:List su} {t:TypeId} (h:w.ownsRow B t 4 (.slice (some ⟨g,0,none⟩) n c) n (lX l)) (hn:l.length=n):Sr w g 0 l:=fun j u hj=>by
 have hj2:=(aN.1 hj).1;rw [jo] at hj2;rw [bz,h.cellAt j (by omega)]
 exact hj
theorem Na {w:World} {B B' n:Nat} {l:List su} {v:Value} {t:TypeId} (h:w.ownsRow B' t 4 v n (lX l)) (hn:l.length=n) (hB:B≤B'):Dr B w l v:=by
 rcases eQ n with h0|h0
 ·have hl:l=[]:=dw.1 (hn.trans h0)
  rcases h.2 with ⟨rfl,_⟩|⟨g,cap,cur,rfl,_⟩
  ·exact ⟨none,0,by rw [hl];rfl,by rw [hl];simp,.inl hl⟩
  ·exact ⟨_,cap,by rw [hn],by rw [hl];simp,.inl hl⟩
 ·obtain ⟨g,c,rfl,hc,hg,_⟩:=lN h h0
  exact ⟨_,c,by rw [hn],by omega,.inr ⟨g,0,rfl,by omega,(h.lt g rfl).2,YK h hn⟩⟩
theorem tJ:∀ (l:List su),∀ u∈lX l,u.oneCell'=true
 | [],u,h=>by simp [lX] at h
 | d :: r,u,h=>by
  simp only [lX,List.mem_append] at h
  rcases h with h|h
  ·simp only [Vs,bA,ek,or_false] at h
   rcases h with rfl|rfl|rfl|rfl <;> rfl
  ·exact tJ r u h
theorem EO:(Tryz.prog.info? 67).map (fun i=>(i.zero,i.size,i.bytes))=some (some (.agg #[.int .i64 0,.int .i64 0,.bool false,.bool false]),4,24):=by kernel_rfl
theorem abI:(Tryz.prog.info? 62).map (fun i=>(i.zero,i.size,i.bytes))=some (some (.agg #[.int .i64 0,.int .i64 0,.bool false,.bool false]),4,24):=by kernel_rfl
theorem YL {w:World} {q:Nat} {p:su} {t:TypeId} (h:w.heap[q]?=some (.cells #[.int .i64 p.f,.int .i64 p.e,.bool p.d,.bool p.j] t (0,0))) :
  ∀ k u,(lX [p])[k]?=some u→w.cell? ((⟨q,0,none⟩:Addr).add k)=some u:=fun k u hk=>by
 rw [Addr.add_lit,bz];have hk2:=(aN.1 hk).1;rw [jo] at hk2;simp only [lX,Vs,eB] at hk
 match k,hk2 with
 | 0,_=>simp at hk;subst hk;simp [World.cell?,h]
 | 1,_=>simp at hk;subst hk;simp [World.cell?,h]
 | 2,_=>simp at hk;subst hk;simp [World.cell?,h]
 | 3,_=>simp at hk;subst hk;simp [World.cell?,h]
theorem GU (W:World) (f e:Nat) (d j:Bool) (t:TypeId):∀ k u,(lX [⟨f,e,d,j⟩])[k]?=some u→(W.alloc (.cells #[.int .i64 f,.int .i64 e,.bool d,.bool j] t)).cell? ((⟨W.heap.size,0,none⟩:Addr).add k)=some u:=YL (p:=⟨f,e,d,j⟩) (gu W _)
end Q
namespace Ud
open Go.RowKit
open Go.Lib hiding intOf
open U S Q T J
open K (kT qd rG wS gB Nn pO BN)
def xh (d:ku) (lv:Value):List Value:=.int .i64 d.f :: .int .i64 d.e :: .string d.tx :: (five d.p lv++[.int .i64 d.a,.int .i64 d.r])
theorem gJ (d:ku) (lv:Value):(xh d lv).length=10:=by unfold xh;simp [eO]
def JK (W:World) (R:Nat→Prop) (g o:Nat) (d:ku):Prop:=∃ lv,dK W g o (xh d lv)∧aT W R d.p lv
def jc (B:Nat) (R:Nat→Prop) (W:World) (l:List ku) (v:Value):Prop :=
 ∃ a cap,v=.slice a l.length cap∧l.length≤cap∧(l=[]∨∃ g off,a=some ⟨g,off,none⟩∧B≤g∧g<W.heap.size∧∀ i (hi:i<l.length),JK W R g (off+i*10) l[i])
theorem JL {W W':World} {g o:Nat} {xs:List Value} (h:dK W g o xs) (hb:Below W.heap.size W W'):dK W' g o xs:=fun j u hj=>(hb.cell (bB W _ (h j u hj))).trans (h j u hj)
theorem JK.later {W W':World} {R:Nat→Prop} {g o:Nat} {d:ku} (h:JK W R g o d) (hb:Below W.heap.size W W'):JK W' R g o d:=by
 obtain ⟨lv,h1,h2⟩:=h
 exact ⟨lv,JL h1 hb,dH h2 hb⟩
theorem jc.later {B:Nat} {R:Nat→Prop} {W W':World} {l:List ku} {v:Value} (h:jc B R W l v) (hb:Below W.heap.size W W'):jc B R W' l v:=by
 obtain ⟨a,c,h1,h2,h3⟩:=h;refine ⟨a,c,h1,h2,h3.imp id ?_⟩;rintro ⟨g,off,e1,e2,e3,e4⟩
 exact ⟨g,off,e1,e2,aD e3 hb.size,fun i hi=>(e4 i hi).later hb⟩
theorem jc.weak {B B':Nat} {R R':Nat→Prop} {W:World} {l:List ku} {v:Value} (h:jc B R W l v) (hB:B'≤B) (hR:∀ k,R k→R' k):jc B' R' W l v:=by
 obtain ⟨a,c,h1,h2,h3⟩:=h;refine ⟨a,c,h1,h2,h3.imp id ?_⟩;rintro ⟨g,off,e1,e2,e3,e4⟩;refine ⟨g,off,e1,by omega,e3,fun i hi=>?_⟩;obtain ⟨lv,k1,k2⟩:=e4 i hi
 exact ⟨lv,k1,aT.later (fun _ _ _=>rfl) hR _ _ k2⟩
theorem jc.nil (B:Nat) (R:Nat→Prop) (W:World):jc B R W [] (.slice none 0 0):=⟨none,0,rfl,ae _,.inl rfl⟩
structure DAt (W:World) (R:Nat→Prop) (d:ku) (g o f e:Nat) (tx:ByteArray) (k t:By) (pf pe:Int) (ks:List Pt) (a:Option Addr) (c:Nat) (x r:Int):Prop where
 eq:d=⟨f,e,tx,.mk k t pf pe ks,x,r⟩
 kids:aT W R (.mk k t pf pe ks) (.slice a ks.length c)
 c0:W.cell? ⟨g,o,none⟩=some (.int .i64 f)
 c1:W.cell? ⟨g,o+1,none⟩=some (.int .i64 e)
 c2:W.cell? ⟨g,o+2,none⟩=some (.string tx)
 c3:W.cell? ⟨g,o+3,none⟩=some (.string (aU k))
 c4:W.cell? ⟨g,o+3+1,none⟩=some (.string (aU t))
 c5:W.cell? ⟨g,o+3+2,none⟩=some (.int .i64 pf)
 c6:W.cell? ⟨g,o+3+3,none⟩=some (.int .i64 pe)
 c7:W.cell? ⟨g,o+3+4,none⟩=some (.slice a ks.length c)
 c8:W.cell? ⟨g,o+8,none⟩=some (.int .i64 x)
 c9:W.cell? ⟨g,o+9,none⟩=some (.int .i64 r)
theorem Ba {W:World} {R:Nat→Prop} {g o:Nat} {d:ku} (h:JK W R g o d):∃ f e tx k t pf pe ks a c x r,DAt W R d g o f e tx k t pf pe ks a c x r:=by
 obtain ⟨lv,h1,h2⟩:=h;obtain ⟨f,e,tx,⟨k,t,pf,pe,ks⟩,x,r⟩:=d;obtain ⟨a,c,rfl⟩:=eF h2
 exact ⟨f,e,tx,k,t,pf,pe,ks,a,c,x,r,rfl,h2,h1 0 _ rfl,h1 1 _ rfl,h1 2 _ rfl,h1 3 _ rfl,h1 4 _ rfl,h1 5 _ rfl,h1 6 _ rfl,h1 7 _ rfl,h1 8 _ rfl,h1 9 _ rfl⟩
theorem DAt.below {W W':World} {R:Nat→Prop} {d:ku} {g o f e:Nat} {tx:ByteArray} {k t:By} {pf pe:Int} {ks:List Pt} {a:Option Addr} {c:Nat} {x r:Int} (h:DAt W R d g o f e tx k t pf pe ks a c x r) (hb:Below W.heap.size W W'):DAt W' R d g o f e tx k t pf pe ks a c x r :=
 have cl:∀ {o:Nat} {v:Value},W.cell? ⟨g,o,none⟩=some v→W'.cell? ⟨g,o,none⟩=some v:=fun h=>(hb.cell (bB W _ h)).trans h
 ⟨h.eq,dH h.kids hb,cl h.c0,cl h.c1,cl h.c2,cl h.c3,cl h.c4,cl h.c5,cl h.c6,cl h.c7,cl h.c8,cl h.c9⟩
theorem lY {B:Nat} {R:Nat→Prop} {W:World} {l:List ku} {v:Value} (h:jc B R W l v):∃ a c,v=.slice a l.length c:=by
 obtain ⟨a,c,h1,_⟩:=h
 exact ⟨a,c,h1⟩
theorem uy {B:Nat} {R:Nat→Prop} {W:World} {l:List ku} {a:Option Addr} {n c:Nat} (h:jc B R W l (.slice a n c)):n=l.length∧l.length≤c∧(l=[]∨∃ g off,a=some ⟨g,off,none⟩∧B≤g∧g<W.heap.size∧∀ i (hi:i<l.length),JK W R g (off+i*10) l[i]):=by
 obtain ⟨a',c',h1,h2,h3⟩:=h
 cases h1
 exact ⟨rfl,h2,h3⟩
theorem Vt (t:ByteArray):pO (sj (declT t).1):=by
 unfold declT kT
 cases hf:K.oQ (fH (okB t) t.toList) with
 | bad j=>exact K.pO.nil
 | part p =>
  simp only
  split
  ·exact K.pO.nil
  ·have h:=BN hf
   cases p
   unfold Nn at h
   exact h.2
mutual
theorem Dt (F E:Int→Int) (hF:∀ x,wrap64 (F x+0)=F x) (hE:∀ x,wrap64 (E x+0)=E x):∀ p,lV 0 (K.jB F E p)=K.jB F E p
 | .mk k t f e ks=>by
  rw [K.jB,lV,Bb F E hF hE ks]
  unfold moved
  rw [hF,hE]
  simp
theorem Bb (F E:Int→Int) (hF:∀ x,wrap64 (F x+0)=F x) (hE:∀ x,wrap64 (E x+0)=E x):∀ l,kY 0 (K.mq F E l)=K.mq F E l
 | []=>by rw [K.mq,kY]
 | p :: r=>by rw [K.mq,kY,Dt F E hF hE p,Bb F E hF hE r]
end
theorem wrap_small {x:Int} (h0:0≤x) (h1:x≤1000000000000):wrap64 (x+0)=x:=by
 unfold wrap64
 omega
theorem JM (t:ByteArray) (ht:t.size≤1000000000000):lV 0 (declT t).1=(declT t).1:=by
 unfold declT kT
 have hr:=Cm (okB t) t.toList;have hl:=dR t;generalize fH (okB t) t.toList=L at hr;rw [K.Rm (L:=L) (L':=L) rfl]
 have hb:∀ (i:Nat) (u:aZ),L[i]?=some u→0≤u.f∧u.f≤1000000000000∧0≤u.e∧u.e≤1000000000000:=fun i u h=>by
  have:=K.Jq hr i u h
  omega
 have hF:∀ x,wrap64 (K.FF L x+0)=K.FF L x:=fun x=>by
  apply wrap_small
  ·unfold K.FF;split
   ·omega
   ·split
    ·rename_i u hu;have:=hb _ u hu;omega
    ·omega
  ·unfold K.FF;split
   ·omega
   ·split
    ·rename_i u hu;have:=hb _ u hu;omega
    ·omega
 have hE:∀ x,wrap64 (K.EE L x+0)=K.EE L x:=fun x=>by
  apply wrap_small
  ·unfold K.EE;split
   ·omega
   ·split
    ·rename_i u hu;have:=hb _ u hu;omega
    ·omega
  ·unfold K.EE;split
   ·omega
   ·split
    ·rename_i u hu;have:=hb _ u hu;omega
    ·omega
 cases K.oQ (K.Rl L) with
 | bad j=>rfl
 | part p =>
  simp only [K.xg.map]
  split
  ·rfl
  ·exact Dt _ _ hF hE p
mutual
theorem uA {W W':World} (hX:∀ b o (k t:By) (f e:Int) (ks:List Pt) (lv:Value),k≠[]→dK W b o (five (.mk k t f e ks) lv)→dK W' b o (five (.mk k t f e ks) lv)):∀ (p:Pt) (lv:Value),pO (sj p)→aT W (fun _=>True) p lv→aT W' (fun _=>True) p lv
 | .mk k t f e ks,lv,hn,h=>by
  obtain ⟨a,cap,h1,h0,h2⟩:=h;refine ⟨a,cap,h1,h0,h2.imp id ?_⟩;rintro ⟨g,off,xs,e1,_,e3,e4⟩;obtain ⟨r1,r2⟩:=Bc hX ks xs g off hn e3 e4
  exact ⟨g,off,xs,e1,trivial,r1,r2⟩
theorem Bc {W W':World} (hX:∀ b o (k t:By) (f e:Int) (ks:List Pt) (lv:Value),k≠[]→dK W b o (five (.mk k t f e ks) lv)→dK W' b o (five (.mk k t f e ks) lv)):∀ (l:List Pt) (xs:List Value) (g off:Nat),pO l→dK W g off xs→aO W (fun _=>True) l xs→dK W' g off xs∧aO W' (fun _=>True) l xs
 | [],xs,g,off,_,hc,h=>by
  have h:xs=[]:=h;subst h
  exact ⟨fun j u hj=>by simp at hj,rfl⟩
 | .mk k t f e ks :: r,xs,g,off,hn,hc,h=>by
  obtain ⟨lv,rest,rfl,h2,h3⟩:=h
  unfold pO Nn at hn
  have hl:=eO (.mk k t f e ks) lv
  have c1:dK W g off (five (.mk k t f e ks) lv):=fun j u hj=>hc j u (by rw [bn (aN.1 hj).1];exact hj)
  have c2:dK W g (off+5) rest:=fun j u hj=>by
   have:=hc (5+j) u (by rw [aK (by omega),hl,show 5+j - 5=j by omega];exact hj);rw [show off+5+j=off+(5+j) by omega]
   exact this
  have d1:=hX g off k t f e ks lv hn.1.1 c1;obtain ⟨d2,d3⟩:=Bc hX r rest g (off+5) hn.2 c2 h3;refine ⟨fun j u hj=>?_,lv,rest,rfl,uA hX _ lv hn.1.2 h2,d3⟩
  by_cases hj5:j<5
  ·rw [bn (by omega)] at hj
   exact d1 j u hj
  ·rw [aK (by omega),hl] at hj
   have:=d2 (j - 5) u hj;rw [show off+5+(j - 5)=off+j by omega] at this
   exact this
end
end Ud
namespace Q
open Go.RowKit
def Steps {σ α:Type} (P:Program) (gf:Nat) (lb:Array Value) (encs:α→Array Value) (k:Nat) (R:σ→α→σ→Prop) (s0:σ) (S:σ→Prop) (w:World):Prop :=
 ∀ (l:Nat) (J:σ→World→Prop) (W:World),Below w.heap.size w W →
  (∀ s x s' W1,R s x s'→J s W1→YieldAt Fence.wide 2 P l (encs x) W1 fun e W2=>e=.returned (.bool true)∧J s' W2∧W2.heap[k]?=W1.heap[k]?)→J s0 W →
  CallsIn Fence.wide 3 P gf (#[.func (.yield l) #[] #[]]++lb) W fun e W2=>(∃ v,e=.returned v)∧∃ s,S s∧J s W2
def KQ (k:Nat) (J:World→Prop) (W:World):Exit→Act→World→Prop
 | .normal,_,W2=>KeepsOthers W W2∧W2.heap[k]?=W.heap[k]?∧J W2
 | .ret,_,_=>False
 | .exit _,_,_=>False
 | .goto _,_,_=>False
 | .panic _,_,_=>False
 | .outgrown,_,_=>False
theorem Cw {σ α:Type} {P:Program} {g:Operand} {ps:Array Tmp} {assign body:Code} {Q:Exit→Act→World→Prop} {a:Act} {w w0:World} {gf k:Nat} {lb:Array Value} {encs:α→Array Value} {R:σ→α→σ→Prop} {s0:σ} {S:σ→Prop}
  (hg:a.eval g=.func (.func gf) #[] lb) (eg:∀ args w,(callFunc gf args).run P w=.ok (.enter gf args) w) (hseq:Steps P gf lb encs k R s0 S w0) (hb0:Below w0.heap.size w0 w) (hn0:k<w.heap.size) (hps:∀ x,(encs x).size=ps.size)
  (I:σ→World→Prop) (hI:OwnFrom w.heap.size I) (h0:I s0 w) (a1:α→Act)
  (hassign:∀ (l:Nat) (x:α) (W:World) (K:Act→World→Prop),K (a1 x) W→assign.wpIn (Fence.wide.inRound l) 2 P (Exit.then K (fun _ _ _=>False)) { tmps:=(ps.zip (encs x)).foldl (fun t (p,v)=>t.setIfInBounds p v) a.tmps,defers:=[] } W)
  (hbody:∀ (l:Nat) (s:σ) (x:α) (s':σ) (W:World),R s x s'→I s W→body.wpIn (Fence.wide.inRound l) 2 P (KQ k (I s') W) (a1 x) W)
  (hdone:∀ (D:Nat) (s:σ) (W:World),w.heap.size≤D→S s→I s W→W.heap[D]?=some (.deferred (some []))→Q .normal { a with defers:={ target:=.collected D,args:=#[] } :: a.defers } W) :
  (Code.rangeFunc g ps assign body).wp P Q a w:=by
 refine (wpIn_wide (n:=4)).1 (wpIn_rangeFunc fun fn hfn=>?_);obtain ⟨D,hD⟩:∃ D,w.heap.size=D:=⟨_,rfl⟩
 obtain ⟨rec,hrec⟩:∃ rec:LoopState→Loop,rec=fun st=>{ state:=st,pending:=none,fn,tmps:=a.tmps,params:=ps,assign,body,defers:=D }:=⟨_,rfl⟩
 obtain ⟨W1,hW1⟩:∃ W1,(w.alloc (.deferred (some []))).alloc (.loop (rec .ready))=W1:=⟨_,rfl⟩
 have hK1:W1.heap[D]?=some (.deferred (some [])):=by
  rw [← hW1,← hD];exact (dx _ _ _ (by simp)).trans (gu w _)
 have hL1:W1.heap[D+1]?=some (.loop (rec .ready)):=by
  have h:=gu (w.alloc (.deferred (some []))) (.loop (rec .ready));rw [aX,hD,hW1] at h
  exact h
 have hI1:I s0 W1:=by rw [← hW1];exact hI.alloc _ (hI.alloc _ h0)
 have hb1:Below w0.heap.size w0 W1:=by
  rw [← hW1];exact hb0.trans ((((aj _ w).alloc (ae _) _).alloc (by simp) _).mono hb0.size)
 have henter:=run_enterLoop_outer (P:=P) (w:=w) fn a.tmps ps assign body;rw [hD] at henter
 refine ⟨D+1,[{ target:=.collected D,args:=#[] }],W1,{ target:=.fn (.func gf) lb,args:=#[.func (.yield (D+1)) #[] #[]] },W1,gf,#[.func (.yield (D+1)) #[] #[]]++lb,W1,?_,?_,fun _ _=>trivial,?_,fun h=>by (simp [Fence.wide] at h),?_⟩
 ·rw [Fence.wide_round,← hW1,hrec]
  exact henter
 ·simp only [resolve,hg]
  simp [go_sem]
 ·simp [invoke,go_sem,eg]
 ·rw [hD] at hI hn0
  refine (hseq (D+1) (fun s W=>I s W∧W.heap[D+1]?=some (.loop (rec .ready))∧W.heap[D]?=some (.deferred (some []))) W1 hb1 ?_ ⟨hI1,hL1,hK1⟩).mono ?_
  ·-- a round
   rintro s x s' W hR ⟨hi,hl,hk⟩;have hlt:D+1<W.heap.size:=(af.1 hl).1;obtain ⟨W2,hW2⟩:∃ W2,W.putObj (D+1) (.loop (rec .busy))=W2:=⟨_,rfl⟩
   have hl2:W2.heap[D+1]?=some (.loop (rec .busy)):=by rw [← hW2];exact World.putObj_heap_same hlt
   have hk2:W2.heap[D]?=some (.deferred (some [])):=by rw [← hW2];exact (dQ (by omega)).trans hk
   have hi2:I s W2:=by rw [← hW2];exact hI.putObj _ hi (by omega) hl rfl
   have hb2:W2.heap[k]?=W.heap[k]?:=by rw [← hW2];exact dQ (by omega)
   have KR:(Instr.beginRound (D+1)).run P W=.ok () W2:=by
    have h:=run_beginRound (P:=P) hl (by rw [hrec]);rw [← hW2,h,hrec]
   have hy:=run_yield (P:=P) (args:=encs x) hl (by rw [hrec];exact hps x);rw [hrec] at hy;refine ⟨fn,_,assign,body,hy,roundIn_of_wpIn hfn (hassign _ x W _ ⟨_,KR,wpIn_mono (hbody _ s x s' W2 hR hi2) ?_⟩)⟩;rintro e a3 W3 hp
   cases e with
   | normal =>
    obtain ⟨hko,hb3,hi3⟩:=hp;have hl3:=hko.same _ _ hl2 rfl;have hk3:=hko.same _ _ hk2 rfl;have hlt3:D+1<W3.heap.size:=(af.1 hl3).1;have hend:=run_endRound (P:=P) none hl3;have hb4:(W3.putObj (D+1) (.loop (rec .ready))).heap[k]?=W3.heap[k]?:=dQ (by omega);refine ⟨_,W3.putObj (D+1) (.loop (rec .ready)),?_,rfl,⟨hI.putObj _ hi3 (by omega) hl3 rfl,World.putObj_heap_same hlt3,(dQ (by omega)).trans hk3⟩,hb4.trans (hb3.trans hb2)⟩;rw [hrec] at hend ⊢
    exact hend
   | ret=>exact hp.elim
   | exit id=>exact hp.elim
   | goto t=>exact hp.elim
   | panic ch=>exact hp.elim
   | outgrown=>exact hp.elim
  ·-- behind the iterator
   rintro e W2 ⟨⟨v,rfl⟩,s,hS,hi,hl,hk⟩;have hend:=run_endLoop (P:=P) hl (by rw [hrec];simp)
   have hp:(rec .ready).pending=none:=by rw [hrec]
   rw [hp] at hend
   exact ⟨none,_,hend,hdone D s _ (by omega) hS (hI.putObj _ hi (by omega) hl rfl) ((dQ (by omega)).trans hk)⟩
end Q
namespace Q
open Go.RowKit
open Go.Lib hiding intOf
open U S L
theorem GV (s:ByteArray) (w:World) (hs:s.size≤1099511627776) (hT:qI w) :
  Calls Tryz.prog 47 #[.string s] w fun e w'=>e=.returned (.bool (mV s.toList))∧Below w.heap.size w w':=by
 have cS:=Jw s w hs hT;obtain ⟨h0,h1⟩:=Lm (okB s) s.toList;obtain ⟨L,hL⟩:∃ L,fH (okB s) s.toList=L:=⟨_,rfl⟩;rw [hL] at cS h0 h1;obtain ⟨R,hR⟩:∃ R,mV s.toList=R:=⟨_,rfl⟩;rw [hR] at h0 h1 ⊢;clear hL hR hs
 cases L with
 | nil =>
  obtain rfl:=h0 rfl;clear h0 h1
  go_enter Tryz.func47,Tryz.ntmps47
  go_wp2_with fail
  refine cS.mono ?_;rintro e w1 ⟨v,rfl,hv,hb1⟩;obtain ⟨a,cap,rfl,_,_⟩:=hv;clear cS
  go_wp2_with fail
  go_ret
  exact ⟨rfl,hb1⟩
 | cons t u =>
  obtain ⟨h2,h3⟩:=h1 t u rfl;have H2:=hid h2;have H3:=hid h3;clear h0 h1 h2 h3
  go_enter Tryz.func47,Tryz.ntmps47
  go_wp2_with fail
  refine cS.mono ?_;rintro e w1 ⟨v,rfl,hv,hb1⟩;obtain ⟨a,cap,rfl,_,hc⟩:=hv;obtain ⟨g,off,rfl,_,_,hat⟩:=hc.resolve_left (by simp);obtain ⟨c0,c1,c2,c3⟩:=xM 0 hat (by simp);simp only [List.getElem_cons_zero,Nat.zero_mul,bS] at c0 c1 c2 c3;obtain ⟨n,hn⟩:∃ n,(t :: u).length=n:=⟨_,rfl⟩
  have hn0:0<n:=by rw [← hn];simp
  have hn1:¬ ((n:Int)=0):=by omega
  rw [hn];obtain ⟨x,hx⟩:∃ x:ByteArray,(⟨t.t.toArray⟩:ByteArray)=x:=⟨_,rfl⟩;have HX:Hid (t.t=x.toList):=hid (by rw [← hx,bu]);rw [hx] at c1;have HB:=hid hb1;clear cS hat hc hn hx hb1
  by_cases hf:0<t.f
  ·obtain rfl:=H2.out hf
   go_wp2_with fail
   go_ret
   exact ⟨rfl,HB.out⟩
  ·have hR:Hid (R=kw x.toList):=hid (by rw [H3.out (by omega),HX.out])
   have hfd:decide (0<t.f)=false:=by simpa using hf
   clear hf
   go_wp2_with fail
   all_goals (go_ret;exact ⟨vD (by first|(exfalso;omega)|(exfalso;simp_all;done)|(rw [hR.out];simp only [kw, *];rfl)|(rw [hR.out];simp [kw, *];done)|(rw [hR.out];simp_all [kw];done)),HB.out⟩)
theorem ru (s:ByteArray) (w:World):Calls Tryz.prog 46 #[.string s] w fun e w'=>e=.returned (.func (.func 69) #[] #[.pointer (some ⟨w.heap.size,0,none⟩)])∧w'=w.alloc (.cells #[.string s] 9):=by
 go_enter Tryz.func46,Tryz.ntmps46
 go_wp2_with fail
 go_ret
 exact ⟨rfl,rfl⟩
structure Du (l:By) (p q:Nat):Prop where
 pq:p≤q
 ql:q≤l.length
 ahead:p=0∨l[p - 1]?=some 10
 within:∀ k,p≤k→k+1<q→l[k]?≠some 10
 behind:q=l.length∨(p<q∧l[q - 1]?=some 10)
def Nb (l:By) (o:Option Nat) (x:Nat × Nat) (o':Option Nat):Prop:=Du l x.1 x.2∧((o=none∧x.1=0)∨(o=some x.1∧0<x.1))∧o'=some x.2
def Vu (s:ByteArray) (x:Nat × Nat):Array Value:=#[.int .i64 x.1,.string (s.extract x.1 x.2)]
attribute [local go_sem] Oper.semAt_some
theorem JN (s:ByteArray) (k:Nat) (w:World) (hk:w.heap[k]?=some (.cells #[.string s] 9 (0,0))) (hs:s.size≤1099511627776) :
  Steps Tryz.prog 69 #[.pointer (some ⟨k,0,none⟩)] (Vu s) k (Nb s.toList) none (fun o=>o=some s.size) w:=by
 intro l J W hW hY h0;have ZR:k<w.heap.size:=(af.1 hk).1;have hk0:W.heap[k]?=some (.cells #[.string s] 9 (0,0)):=(hW.block k ZR).trans hk;have HY:=hid hY;have IV:=hid hk0;clear hY hW hk ZR;refine callsIn_of_wp Tryz.func69 rfl trivial ?_ rfl;simp only [Tryz.ntmps69,List.size_toArray,aH,dM,Nat.reduceAdd,Nat.reduceSub,Array.replicate_succ,Array.replicate_zero,List.push_toArray,List.append_toArray,fA,bH]
 have hc0:W.cell? ⟨k,0,none⟩=some (.string s):=by simp [World.cell?,hk0]
 clear hk0
 gi_wp2
 gi_loopw [3,7] (fun fv iv wr=>∃ (f i:Nat) (o:Option Nat),fv=.int .i64 f∧iv=.int .i64 i∧f≤i∧i≤s.size∧Hid (J o wr)∧Hid ((o=none∧f=0)∨(o=some f∧0<f))∧Hid (f=0∨s.toList[f - 1]?=some 10)∧Hid (∀ j,f≤j→j<i→s.toList[j]?≠some 10)∧Hid (wr.heap[k]?=some (.cells #[.string s] 9 (0,0)))) (fun _ iv _=>s.size - (intOf iv).toNat)
 case atStart=>exact ⟨0,0,none,rfl,rfl,ae _,aL _,hid h0,hid (.inl ⟨rfl,rfl⟩),hid (.inl rfl),hid (fun j _ h=>absurd h (by omega)),IV⟩
 case round =>
  obtain ⟨f,i,o,rfl,rfl,hfi,hi,HJ,HO,HA,HI,HK⟩:=hrel
  have hc:wr.cell? ⟨k,0,none⟩=some (.string s):=by simp [World.cell?,HK.out]
  clear hc0
  by_cases hlt:i<s.size
  ·have hget:=xK s hlt
   have e0:IntKind.i64.wrap ((i:Int)+1)=(i:Int)+1:=bg _ (by omega);obtain ⟨z,hz⟩:∃ z,s[i]=z:=⟨_,rfl⟩;rw [hz] at hget;have HG:=hid hget;clear hget
   by_cases h10:z.toNat=10
   ·obtain rfl:z=10:=UInt8.toNat_inj.1 h10
    have HL:Hid (Du s.toList f (i+1)):=hid ⟨by omega,by rw [dR];omega,HA.out,fun j h1 h2=>HI.out j h1 (by omega),.inr ⟨by omega,HG.out⟩⟩;obtain ⟨fn,tmps,assign,body,hy,hR⟩:=HY.out o (f,i+1) (some (i+1)) wr ⟨HL.out,HO.out,rfl⟩ HJ.out;dsimp only [Vu] at hy
    have aan:(0:Int)≤(f:Int):=by omega
    have hin1:(f:Int)≤(i:Int)+1:=by omega
    have hin2:(i:Int)+1≤(s.size:Int):=by omega
    have aeL:f≤i+1:=by omega
    have ajb:i+1≤s.size:=by omega
    gi_wp2
    refine hR.mono ?_;rintro e W3 ⟨rfl,hJ3,hk3⟩;have ZH:=hid hJ3;have Ui:Hid (W3.heap[k]?=some (.cells #[.string s] 9 (0,0))):=hid (hk3.trans HK.out);clear hJ3 hk3
    gi_wp2
    go_roundw
    case rel=>exact ⟨i+1,i+1,some (i+1),by go_num,by go_num,ae _,by omega,ZH,hid (.inr ⟨rfl,by omega⟩),hid (.inr HG.out),hid (fun j _ _=>by omega),Ui⟩
    case measure=>simp [intOf];omega
   ·have HI2:Hid (∀ j,f≤j→j<i+1→s.toList[j]?≠some 10):=hid (fun j h1 h2=>by
     by_cases hj:j<i
     ·exact HI.out j h1 hj
     ·obtain rfl:j=i:=by omega
      rw [HG.out];intro e
      apply h10
      rw [aY e];rfl)
    gi_wp2
    go_roundw
    case rel=>exact ⟨f,i+1,o,rfl,by go_num,by omega,by omega,HJ,HO,HA,HI2,HK⟩
    case measure=>simp [intOf];omega
  ·obtain rfl:i=s.size:=by omega
   have HL:Hid (Du s.toList f s.size):=hid ⟨by omega,by rw [dR];exact ae _,HA.out,fun j h1 h2=>HI.out j h1 (by omega),.inl (dR s).symm⟩;obtain ⟨fn,tmps,assign,body,hy,hR⟩:=HY.out o (f,s.size) (some s.size) wr ⟨HL.out,HO.out,rfl⟩ HJ.out;dsimp only [Vu] at hy
   gi_wp2
   refine hR.mono ?_;rintro e W3 ⟨rfl,hJ3,hk3⟩
   gi_wp2
   go_end0
   exact ⟨⟨_,rfl⟩,_,rfl,hJ3⟩
end Q
namespace Q
open Go.Lib hiding intOf
open U S L
theorem YM {s:By} {i:Nat} (h:yB s i=true) (h0:0<i):s[i - 1]?=some 10:=by
 unfold yB at h
 simp only [iq,Bool.or_eq_true,decide_eq_true_eq] at h
 rcases h.1 with h|h
 ·omega
 ·exact h
theorem Ss {s:By} {i:Nat} (h:yB s i=true):mV (s.drop i)=true:=by
 unfold yB at h
 simp only [iq] at h
 exact h.2
theorem Su (s:By) {f e:Nat} (hfe:f<e) (h10:s[e - 1]?=some 10):∃ y,s.drop f=y++10 :: s.drop e∧(s.drop f).take (e - f)=y++[10]:=by
 have hlt:e - 1<s.length:=(aN.1 h10).1;have h1:=bZ hlt;rw [aC hlt] at h10;rw [aY h10,show e - 1+1=e by omega] at h1
 have hd:(s.drop f).drop (e - 1 - f)=10 :: s.drop e:=by rw [List.drop_drop,show f+(e - 1 - f)=e - 1 by omega,h1]
 have h2:s.drop f=(s.drop f).take (e - 1 - f)++10 :: s.drop e:=by rw [← hd,List.take_append_drop]
 obtain ⟨y,hy⟩:∃ y,(s.drop f).take (e - 1 - f)=y:=⟨_,rfl⟩
 have hyl:y.length=e - 1 - f:=by rw [← hy,il,bC];omega
 rw [hy] at h2;refine ⟨y,h2,?_⟩;rw [h2,List.take_append,bX (by omega),hyl,show e - f - (e - 1 - f)=1 by omega]
 rfl
structure adp (s:ByteArray) (p:su) (i:Nat):Prop where
 fe:p.f≤p.e
 es:p.e≤s.size
 decl:0<i→p.d=true∧p.f<p.e
 dj:p.d=true→p.j=false
 ok:okB (s.extract p.f p.e)=true
 words:(decide (0<(fH true (s.extract p.f p.e).toList).length))=(p.d||p.j)
 sum:(fH true (s.toList.drop p.f)).length=(fH true (s.extract p.f p.e).toList).length+(fH true (s.toList.drop p.e)).length
end Q
end Go.Proofs.YtojoahlpgmnbnaaGreatDoor
