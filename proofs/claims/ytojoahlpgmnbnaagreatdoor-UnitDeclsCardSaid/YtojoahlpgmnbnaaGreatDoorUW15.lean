/- What the claim needs of the texts UCount, UKeep, JShiftR, UUnit. -/
import Derived.Test.YtojoahlpgmnbnaaGreatDoorUWOp
import Derived.Test.YtojoahlpgmnbnaaGreatDoorUW13
import Derived.Test.YtojoahlpgmnbnaaGreatDoorUW14
import Derived.Deep.AppendLies
set_option maxRecDepth 20000
set_option maxHeartbeats 16000000
namespace Go.Proofs.YtojoahlpgmnbnaaGreatDoor
namespace Ud
open Go.RowKit
open Go.Lib hiding intOf
open U S Q T J
def EI (W:World) (v:Value) (l:List ByteArray):Prop:=∃ a c,v=.slice a l.length c∧(l=[]∨∃ g off,a=some ⟨g,off,none⟩∧∀ i (hi:i<l.length),W.cell? ⟨g,off+i*10+2,none⟩=some (.string l[i]))
theorem EI.later {W W':World} {v:Value} {l:List ByteArray} (h:EI W v l) (hb:Below W.heap.size W W'):EI W' v l:=by
 obtain ⟨a,c,h1,h2⟩:=h;refine ⟨a,c,h1,h2.imp id ?_⟩;rintro ⟨g,off,e1,e2⟩
 exact ⟨g,off,e1,fun i hi=>(hb.cell (aY W _ (e2 i hi))).trans (e2 i hi)⟩
theorem Mc {B:Nat} {R:Nat→Prop} {W:World} {l:List kD} {v:Value} (h:iY B R W l v):EI W v (mG l):=by
 obtain ⟨a,c,h1,h2,h3⟩:=h;refine ⟨a,c,by rw [jP];exact h1,?_⟩
 rcases h3 with h3|⟨g,off,e1,_,_,e4⟩
 ·exact .inl (by rw [h3];rfl)
 ·refine .inr ⟨g,off,e1,fun i hi=>?_⟩
  have hi2:i<l.length:=by rw [← jP];exact hi
  obtain ⟨f,e,tx,k,t,pf,pe,ks,aa,cc,x,r,hK⟩:=Bo (e4 i hi2);have e5:(mG l)[i]=l[i].tx:=List.getElem_map _;rw [hK.c2,e5,hK.eq]
theorem zw {x:Int} (h0:-1000000000000≤x) (h1:x≤1000000000000):wrap64 x=x:=by
 unfold wrap64
 omega
theorem zx {w:World} {q:Nat} {x:Value} {t:TypeId} (h:w.heap[q]?=some (.cells #[x] t (0,0))):w.cell? ⟨q,0,none⟩=some x∧w.frozen? ⟨q,0,none⟩=false:=by
 unfold World.cell? World.frozen?;rw [h];exact ⟨rfl,rfl⟩
theorem mY {q:Nat} {w W:World} (h:Below q w W):Below q w W.drew:=⟨h.os,h.tape,h.output,h.size,h.block⟩
theorem zy {o:Oper} {a:Act} (x y g off n i c:Nat) (W:World) (ho:o.op=.indexAddr 56 (.tmp x) (.tmp y)) (h1:a.eval (.tmp x)=.slice (some ⟨g,off,none⟩) n c) (h2:a.eval (.tmp y)=.int .i64 i) (hin:i<n):(execOp a.eval o).run Tryz.prog W=.ok (.value (.pointer (some ⟨g,off+i*10,none⟩))) W:=by
 have hm:(0:Int)≤(i:Int):=by omega
 have hm2:(i:Int)<(n:Int):=by omega
 have hr:(Instr.indexAt 56 (.slice (some ⟨g,off,none⟩) n c) (.int .i64 i)).run Tryz.prog W=.ok (.pointer (some ⟨g,off+i*10,none⟩)) W:=by
  simp [go_sem]
  intro h
  omega
 unfold execOp
 rw [ho];simp only [h1,h2,iQ,hr,eP,iR]
theorem FR (q A B:Nat) (w:World) (TL TO:List ByteArray) (v v':Value) (left:Nat) (a0 b0 st:Int) (gg:Nat→Bool)
  (hq:w.heap[q]?=some (.cells #[.int .i64 left] 3 (0,0))) (hA:w.cell? ⟨A,0,none⟩=some v) (hB:w.cell? ⟨B,0,none⟩=some v') (hAq:A<q) (hBq:B<q)
  (hv:EI w v TL) (hv':EI w v' TO) (hlow:∀ g off n c,TL≠[]→v=.slice (some ⟨g,off,none⟩) n c→g<q) (hlow':∀ g off n c,TO≠[]→v'=.slice (some ⟨g,off,none⟩) n c→g<q)
  (hidx:∀ j:Nat,j<left→∃ x y:Nat,∃ (hx:x<TL.length) (hy:y<TO.length),a0+st*j=x∧b0+st*j=y∧gg j=decide (TL[x]=TO[y]))
  (hst:st=1∨st=-1) (ha:-1000000000≤a0∧a0≤1000000000) (hb:-1000000000≤b0∧b0≤1000000000) (hl:left≤1000000000) :
  Calls Tryz.prog 51 #[.int .i64 a0,.int .i64 b0,.int .i64 st,.pointer (some ⟨q,0,none⟩),.pointer (some ⟨A,0,none⟩),.pointer (some ⟨B,0,none⟩)] w fun e w'=>e=.returned (.int .i64 (cnt gg left 0:Nat))∧w'.heap[q]?=some (.cells #[.int .i64 ((left - cnt gg left 0:Nat):Int)] 3 (0,0))∧Below q w w':=by
 obtain ⟨a,c,rfl,hrow⟩:=hv;obtain ⟨a',c',rfl,hrow'⟩:=hv';have HR:=hid hrow;have SG:=hid hrow';have HI:=hid hidx;have HS:=hid hst;have HAB:=hid (And.intro ha hb);have HQ:=hid hq;have HL:=hid hlow;have HL':=hid hlow';have hCN:=Cn gg left 0 (fun _ h=>absurd h (aS _));rw [bV] at hCN;obtain ⟨R,hR⟩:∃ R,cnt gg left 0=R:=⟨_,rfl⟩;rw [hR] at hCN ⊢;have HC:=hid hCN;obtain ⟨n,hn⟩:∃ n,TL.length=n:=⟨_,rfl⟩;obtain ⟨n',hn'⟩:∃ n,TO.length=n:=⟨_,rfl⟩;have HN:=hid hn;have HN':=hid hn';have HCA:=hid (And.intro hA hB);rw [hn] at hA;rw [hn'] at hB;have HXA:=hid (And.intro hA hB);clear hrow hrow' hidx hst ha hb hq hCN hR hn hn' hA hB hlow hlow'
 go_enter Tryz.func51,Tryz.ntmps51
 go_wp2_with fail
 go_loopw [0,1,10] (fun xv yv jv wr=>∃ (x y:Int) (j m:Nat),xv=.int .i64 x∧yv=.int .i64 y∧jv=.int .i64 j∧j+m=left∧Hid (x=a0+st*j)∧Hid (y=b0+st*j)∧Hid (∀ i,i<j→gg i=true)∧Hid (wr.heap[q]?=some (.cells #[.int .i64 m] 3 (0,0)))∧Hid (Below q w wr)) (fun _ _ jv _=>left - (Go.RowKit.intOf jv).toNat)
 case atStart=>exact ⟨a0,b0,0,left,rfl,rfl,rfl,by omega,hid (by simp),hid (by simp),hid (fun i h=>absurd h (aS _)),HQ,hid (ah _ _)⟩
 case round =>
  obtain ⟨x,y,j,m,rfl,rfl,rfl,hjm,HX,HY,HG,HM,HB⟩:=hrel;have hcA:wr.cell? ⟨A,0,none⟩=some (.slice a n c):=(HB.out.cell (p:=⟨A,0,none⟩) hAq).trans HXA.out.1;have hcB:wr.cell? ⟨B,0,none⟩=some (.slice a' n' c'):=(HB.out.cell (p:=⟨B,0,none⟩) hBq).trans HXA.out.2;have hcq:=(zx HM.out).1
  go_upto_region 2 with fail
  by_cases hm:0<m
  ·obtain ⟨x0,y0,hx0,hy0,ex,ey,eg⟩:=HI.out j (by omega)
   obtain ⟨g,off,rfl,hc⟩:=HR.out.resolve_left (fun h=>by rw [h] at hx0;exact aS _ hx0);obtain ⟨g',off',rfl,hc'⟩:=SG.out.resolve_left (fun h=>by rw [h] at hy0;exact aS _ hy0);have t1:=(HB.out.cell (p:=⟨g,off+x0*10+2,none⟩) (HL.out _ _ _ _ (fun h=>by rw [h] at hx0;exact aS _ hx0) rfl)).trans (hc x0 hx0);have t2:=(HB.out.cell (p:=⟨g',off'+y0*10+2,none⟩) (HL'.out _ _ _ _ (fun h=>by rw [h] at hy0;exact aS _ hy0) rfl)).trans (hc' y0 hy0);obtain rfl:x=(x0:Int):=HX.out.trans ex;obtain rfl:y=(y0:Int):=HY.out.trans ey;obtain ⟨tx,htx⟩:∃ t,TL[x0]=t:=⟨_,rfl⟩;obtain ⟨ty,hty⟩:∃ t,TO[y0]=t:=⟨_,rfl⟩;rw [htx] at t1 eg;rw [hty] at t2 eg;rw [HN.out] at hx0;rw [HN'.out] at hy0;obtain ⟨bb,hbb⟩:∃ b,decide (tx=ty)=b:=⟨_,rfl⟩;rw [hbb] at eg
   have VQ:(tx.toList==ty.toList)=bb:=by
    rw [← hbb,gq,beq_iff_eq,decide_eq_true_iff]
    exact ⟨fun h=>ByteArray.ext (Array.ext' (by rw [← bg,← bg];exact h)),fun h=>by rw [h]⟩
   have HEG:=hid eg;have HJ:=hid (And.intro hx0 hy0);clear hc hc' ex ey htx hty hbb eg
   refine aK (S:=fun X=>X.cell? ⟨q,0,none⟩=some (.int .i64 m)∧X.cell? ⟨A,0,none⟩=some (.slice (some ⟨g,off,none⟩) n c)∧X.cell? ⟨B,0,none⟩=some (.slice (some ⟨g',off',none⟩) n' c')∧X.cell? ⟨g,off+x0*10+2,none⟩=some (.string tx)∧X.cell? ⟨g',off'+y0*10+2,none⟩=some (.string ty)) (by kernel_rfl) ⟨hcq,hcA,hcB,t1,t2⟩ fun ag=>?_
   obtain ⟨V,hV⟩:∃ V,wr.drew=V:=⟨_,rfl⟩;have AA:Hid (V.heap[q]?=some (.cells #[.int .i64 m] 3 (0,0))):=hid (by rw [← hV];exact HM.out);have ND:Hid (Below q w V):=hid (by rw [← hV];exact mY HB.out);rw [hV] at ag ⊢;clear hV hcq hcA hcB t1 t2 HM HB;refine OP.t 0 rfl (.int .i64 m) (fun X hX=>by obtain ⟨c0,c1,c2,c3,c4⟩:=hX;go_simp) ag ?_;simp only [OP.s];refine OP.t 1 rfl (.bool true) (fun X hX=>by go_simp) ag ?_;simp only [OP.s];refine OP.m 2 rfl (.bool true) ag ?_;simp only [OP.s];refine OP.t 3 rfl (.slice (some ⟨g,off,none⟩) n c) (fun X hX=>by obtain ⟨c0,c1,c2,c3,c4⟩:=hX;go_simp) ag ?_;simp only [OP.s];refine OP.m 4 rfl (.int .i64 x0) ag ?_;simp only [OP.s];refine OP.t 5 rfl (.pointer (some ⟨g,off+x0*10,none⟩)) (fun X hX=>zy 14 15 g off n x0 c X rfl rfl rfl HJ.out.1) ag ?_;simp only [OP.s];refine OP.m 6 rfl (.pointer (some ⟨g,off+x0*10+2,none⟩)) ag ?_;simp only [OP.s];refine OP.t 7 rfl (.string tx) (fun X hX=>by obtain ⟨c0,c1,c2,c3,c4⟩:=hX;go_simp) ag ?_;simp only [OP.s];refine OP.t 8 rfl (.slice (some ⟨g',off',none⟩) n' c') (fun X hX=>by obtain ⟨c0,c1,c2,c3,c4⟩:=hX;go_simp) ag ?_;simp only [OP.s];refine OP.m 9 rfl (.int .i64 y0) ag ?_;simp only [OP.s];refine OP.t 10 rfl (.pointer (some ⟨g',off'+y0*10,none⟩)) (fun X hX=>zy 19 20 g' off' n' y0 c' X rfl rfl rfl HJ.out.2) ag ?_;simp only [OP.s];refine OP.m 11 rfl (.pointer (some ⟨g',off'+y0*10+2,none⟩)) ag ?_;simp only [OP.s];refine OP.t 12 rfl (.string ty) (fun X hX=>by obtain ⟨c0,c1,c2,c3,c4⟩:=hX;go_simp) ag ?_
   simp only [OP.s];refine OP.t 13 rfl (.bool bb) (fun X hX=>by go_simp) ag ?_;simp only [OP.s];refine OP.m 14 rfl (.bool bb) ag ?_;simp only [OP.s];refine bz (by kernel_rfl) ?_ _;clear ag
   cases bb with
   | false =>
    have hRj:R=j:=HC.out.one ⟨by omega,HG.out,.inr HEG.out⟩;clear VQ
    go_wp2_with fail
    go_ret
    refine ⟨by rw [hRj];rfl,?_,ND.out⟩;rw [hRj,show left - j=m by omega]
    exact AA.out
   | true =>
    have P9:Hid (∀ i,i<j+1→gg i=true):=hid (fun i h=>by
     by_cases h1:i<j
     ·exact HG.out i h1
     ·rw [show i=j by omega];exact HEG.out)
    obtain ⟨cq,fq⟩:=zx AA.out;obtain ⟨m',rfl⟩:∃ k,m=k+1:=⟨m - 1,by omega⟩
    have hm1:(((m'+1:Nat):Int) - 1)=(m':Int):=by omega
    have HXE:=hid (show wrap64 ((x0:Int)+st)=a0+st*((j+1:Nat):Int) by
     have h1:=HX.out;have h2:=HAB.out
     rcases HS.out with rfl|rfl
     ·rw [zw (by omega) (by omega)];omega
     ·rw [zw (by omega) (by omega)];omega)
    have HYE:=hid (show wrap64 ((y0:Int)+st)=b0+st*((j+1:Nat):Int) by
     have h1:=HY.out;have h2:=HAB.out
     rcases HS.out with rfl|rfl
     ·rw [zw (by omega) (by omega)];omega
     ·rw [zw (by omega) (by omega)];omega)
    have hset:=ay AA.out (i:=0) (.int .i64 m');have hbs:Below q V (V.setCell ⟨q,0,none⟩ (.int .i64 m')):=⟨rfl,rfl,rfl,by simp,fun k hk=>aj _ _ _ _ (by show k≠q;omega)⟩;have HST:=hid hset;have HBS:=hid (ND.out.trans hbs);clear VQ hset hbs
    go_wp2_with fail
    go_roundw
    case rel=>exact ⟨_,_,j+1,m',rfl,rfl,by go_num,by omega,HXE,HYE,P9,HST,HBS⟩
    case measure=>simp [Go.RowKit.intOf];omega
  ·obtain rfl:m=0:=by omega
   have hRj:R=j:=HC.out.one ⟨by omega,HG.out,.inl (by omega)⟩
   refine aK (S:=fun X=>X.cell? ⟨q,0,none⟩=some (.int .i64 (0:Nat))) (by kernel_rfl) hcq fun ag=>?_
   obtain ⟨V,hV⟩:∃ V,wr.drew=V:=⟨_,rfl⟩;have AA:Hid (V.heap[q]?=some (.cells #[.int .i64 (0:Nat)] 3 (0,0))):=hid (by rw [← hV];exact HM.out);have ND:Hid (Below q w V):=hid (by rw [← hV];exact mY HB.out);rw [hV] at ag ⊢;clear hV hcq hcA hcB HM HB;refine OP.t 0 rfl (.int .i64 (0:Nat)) (fun X hX=>by have c0:X.cell? ⟨q,0,none⟩=some (.int .i64 (0:Nat)):=hX;go_simp) ag ?_;simp only [OP.s];refine OP.t 1 rfl (.bool false) (fun X hX=>by go_simp) ag ?_;simp only [OP.s];refine OP.m 2 rfl (.bool false) ag ?_;simp only [OP.s];refine OP.n 3 rfl ag ?_;simp only [OP.s];refine OP.n 4 rfl ag ?_;simp only [OP.s];refine OP.n 5 rfl ag ?_;simp only [OP.s];refine OP.n 6 rfl ag ?_;simp only [OP.s];refine OP.n 7 rfl ag ?_;simp only [OP.s];refine OP.n 8 rfl ag ?_;simp only [OP.s];refine OP.n 9 rfl ag ?_;simp only [OP.s];refine OP.n 10 rfl ag ?_;simp only [OP.s];refine OP.n 11 rfl ag ?_;simp only [OP.s];refine OP.n 12 rfl ag ?_;simp only [OP.s];refine OP.n 13 rfl ag ?_;simp only [OP.s];refine OP.m 14 rfl (.bool false) ag ?_;simp only [OP.s];refine bz (by kernel_rfl) ?_ _;clear ag
   go_wp2_with fail
   go_ret
   refine ⟨by rw [hRj];rfl,?_,ND.out⟩;rw [hRj,show left - j=0 by omega]
   exact AA.out
theorem S7 {w:World} {v:Value} {l:List ByteArray} (h:EI w v l):∀ g off n c,l≠[]→v=.slice (some ⟨g,off,none⟩) n c→g<w.heap.size:=by
 intro g off n c hl hv;obtain ⟨a,c',h1,h2⟩:=h;obtain ⟨g',off',h3,h4⟩:=h2.resolve_left hl;have hp:0<l.length:=List.length_pos_iff.2 hl;have h5:=aY w _ (h4 0 hp);rw [h1,h3] at hv
 cases hv
 exact h5
theorem Md (w:World) (TL TO:List ByteArray) (v v':Value) (hv:EI w v TL) (hv':EI w v' TO) (h1:TL.length≤1000000) (h2:TO.length≤1000000) :
  Calls Tryz.prog 34 #[v,v'] w fun e w'=>e=.returned (.tuple #[.int .i64 (nk TL TO:Nat),.int .i64 (mI TL TO:Nat)])∧Below w.heap.size w w':=by
 have oD:∀ (fn:Fn) (first cap:Array Value) (w:World),(Instr.makeFunc fn first cap).run Tryz.prog w=.ok (.func fn first cap) w:=fun _ _ _ _=>rfl
 have l1:=S7 hv;have l2:=S7 hv';have hle:=(tV TL TO).1;obtain ⟨w1,hw1,hq1,hr1,ho1,hb1,hz1⟩:=Pf w (.cells #[v] 56) (.cells #[v'] 56) (.cells #[.int .i64 ((min TL.length TO.length:Nat):Int)] 3);have hA1:=(zx hq1).1;have hB1:=(zx hr1).1
 have c1:=FR (w.heap.size+1+1) w.heap.size (w.heap.size+1) w1 TL TO v v' (min TL.length TO.length) 0 0 1 (gH TL TO) ho1 hA1 hB1 (by omega) (by omega) (hv.later hb1) (hv'.later hb1) (fun g off n c e f=>by have:=l1 g off n c e f;omega) (fun g off n c e f=>by have:=l2 g off n c e f;omega)
  (fun j hj=>⟨j,j,by omega,by omega,by omega,by omega,by
   unfold gH
   rw [aB (by omega),aB (by omega)]
   simp⟩) (.inl rfl) (by omega) (by omega) (by omega)
 have c2:=fun (w2:World) (hq:w2.heap[w.heap.size+1+1]?=some (.cells #[.int .i64 ((min TL.length TO.length - nk TL TO:Nat):Int)] 3 (0,0))) (hb2:Below (w.heap.size+1+1) w1 w2) =>
  FR (w.heap.size+1+1) w.heap.size (w.heap.size+1) w2 TL TO v v' (min TL.length TO.length - nk TL TO) ((TL.length:Int) - 1) ((TO.length:Int) - 1) (-1) (gT TL TO) hq ((hb2.cell (p:=⟨w.heap.size,0,none⟩) (by show w.heap.size<_;omega)).trans hA1) ((hb2.cell (p:=⟨w.heap.size+1,0,none⟩) (by show w.heap.size+1<_;omega)).trans hB1) (by omega) (by omega)
   (hv.later (hb1.trans (hb2.mono (by omega)))) (hv'.later (hb1.trans (hb2.mono (by omega)))) (fun g off n c e f=>by have:=l1 g off n c e f;omega) (fun g off n c e f=>by have:=l2 g off n c e f;omega)
   (fun j hj=>⟨TL.length - 1 - j,TO.length - 1 - j,by omega,by omega,by omega,by omega,by
    unfold gT
    rw [aB (by omega),aB (by omega)]
    simp⟩) (.inr rfl) (by omega) (by omega) (by omega)
 have ht:cnt (gT TL TO) (min TL.length TO.length - nk TL TO) 0=mI TL TO:=rfl;have hh:cnt (gH TL TO) (min TL.length TO.length) 0=nk TL TO:=rfl;rw [hh] at c1;rw [ht] at c2;obtain ⟨a,c,rfl,_⟩:=hv;obtain ⟨a',c',rfl,_⟩:=hv';obtain ⟨hd,hhd⟩:∃ x,nk TL TO=x:=⟨_,rfl⟩;obtain ⟨tl,htl⟩:∃ x,mI TL TO=x:=⟨_,rfl⟩;rw [hhd] at c1 c2 ⊢;rw [htl] at c2 ⊢;obtain ⟨n,hn⟩:∃ n,TL.length=n:=⟨_,rfl⟩;obtain ⟨n',hn'⟩:∃ n,TO.length=n:=⟨_,rfl⟩;rw [hn,hn'] at hw1 c1 c2;rw [hn] at h1 hA1 ⊢;rw [hn'] at h2 hB1 ⊢
 have hmin:min (n:Int) (n':Int)=((min n n':Nat):Int):=by omega
 obtain ⟨m,hm⟩:∃ m,min n n'=m:=⟨_,rfl⟩;rw [hm] at hmin hw1 c1 c2;have HB1:=hid hb1;have HZ1:=hid hz1;have QD:=hid c2;have HAB:=hid (And.intro hA1 hB1);clear c2 hq1 hr1 ho1 hb1 hz1 l1 l2 hle ht hh hhd htl hn hn' hm hA1 hB1
 go_enter Tryz.func34,Tryz.ntmps34
 go_wp2_with fail
 refine c1.mono ?_;rintro e w2 ⟨rfl,hq2,hb2⟩;have c2:=QD.out w2 hq2 hb2;have hA2:=(hb2.cell (p:=⟨w.heap.size,0,none⟩) (by show w.heap.size<_;omega)).trans HAB.out.1;have hB2:=(hb2.cell (p:=⟨w.heap.size+1,0,none⟩) (by show w.heap.size+1<_;omega)).trans HAB.out.2;have HB2:=hid (HB1.out.trans (hb2.mono (by omega)));clear c1 hq2 hb2
 go_wp2_with fail
 refine c2.mono ?_;rintro e w3 ⟨rfl,hq3,hb3⟩;have HB3:=hid (HB2.out.trans (hb3.mono (by omega)));clear c2 hq3 hb3 hA2 hB2
 go_wp2_with fail
 go_ret2
 exact ⟨rfl,HB3.out⟩
end Ud
namespace Ud
open Go.RowKit
open Go.Lib hiding intOf
open U S Q T J
open K (gu pW Nn qH)
theorem VR {W:World} {b:Nat} {t:TypeId} {u0 u1 u2 u3 u4 u5 u6 u7 u8 u9:Value} (v0 v1 v2 v3 v4 v5 v6 v7 v8 v9:Value) (h:W.heap[b]?=some (.cells #[u0,u1,u2,u3,u4,u5,u6,u7,u8,u9] t (0,0))) :
  ∃ W',(((((((((W.setCell ⟨b,0,none⟩ v0).setCell ⟨b,1,none⟩ v1).setCell ⟨b,2,none⟩ v2).setCell ⟨b,3,none⟩ v3).setCell ⟨b,4,none⟩ v4).setCell ⟨b,5,none⟩ v5).setCell ⟨b,6,none⟩ v6).setCell ⟨b,7,none⟩ v7).setCell ⟨b,8,none⟩ v8).setCell ⟨b,9,none⟩ v9=W'∧W'.heap[b]?=some (.cells #[v0,v1,v2,v3,v4,v5,v6,v7,v8,v9] t (0,0))∧(∀ k,k≠b→W'.heap[k]?=W.heap[k]?)∧∀ B,B≤b→Below B W W':=by
 have b1:∀ B,B≤b→∀ (X:World) (j:Nat) (v:Value),Below B X (X.setCell ⟨b,j,none⟩ v):=fun B hB X j v=>⟨rfl,rfl,rfl,by simp,fun k hk=>aj _ _ _ _ (by show k≠b;omega)⟩
 have s0:(W.setCell ⟨b,0,none⟩ v0).heap[b]?=some (.cells #[v0,u1,u2,u3,u4,u5,u6,u7,u8,u9] t (0,0)):=ay h v0;have s1:((W.setCell ⟨b,0,none⟩ v0).setCell ⟨b,1,none⟩ v1).heap[b]?=some (.cells #[v0,v1,u2,u3,u4,u5,u6,u7,u8,u9] t (0,0)):=ay s0 v1;have s2:(((W.setCell ⟨b,0,none⟩ v0).setCell ⟨b,1,none⟩ v1).setCell ⟨b,2,none⟩ v2).heap[b]?=some (.cells #[v0,v1,v2,u3,u4,u5,u6,u7,u8,u9] t (0,0)):=ay s1 v2;obtain ⟨X2,hX2⟩:∃ X,((W.setCell ⟨b,0,none⟩ v0).setCell ⟨b,1,none⟩ v1).setCell ⟨b,2,none⟩ v2=X:=⟨_,rfl⟩
 have o2:∀ k,k≠b→X2.heap[k]?=W.heap[k]?:=fun k hk=>by rw [← hX2];exact (aj _ _ _ _ hk).trans ((aj _ _ _ _ hk).trans (aj _ _ _ _ hk))
 have l2:∀ B,B≤b→Below B W X2:=fun B hB=>by rw [← hX2];exact ((b1 B hB _ _ _).trans (b1 B hB _ _ _)).trans (b1 B hB _ _ _)
 rw [hX2] at s2 ⊢;have s3:(X2.setCell ⟨b,3,none⟩ v3).heap[b]?=some (.cells #[v0,v1,v2,v3,u4,u5,u6,u7,u8,u9] t (0,0)):=ay s2 v3;have s4:((X2.setCell ⟨b,3,none⟩ v3).setCell ⟨b,4,none⟩ v4).heap[b]?=some (.cells #[v0,v1,v2,v3,v4,u5,u6,u7,u8,u9] t (0,0)):=ay s3 v4;have s5:(((X2.setCell ⟨b,3,none⟩ v3).setCell ⟨b,4,none⟩ v4).setCell ⟨b,5,none⟩ v5).heap[b]?=some (.cells #[v0,v1,v2,v3,v4,v5,u6,u7,u8,u9] t (0,0)):=ay s4 v5;obtain ⟨X5,Xb⟩:∃ X,((X2.setCell ⟨b,3,none⟩ v3).setCell ⟨b,4,none⟩ v4).setCell ⟨b,5,none⟩ v5=X:=⟨_,rfl⟩
 have o5:∀ k,k≠b→X5.heap[k]?=W.heap[k]?:=fun k hk=>by rw [← Xb];exact ((aj _ _ _ _ hk).trans ((aj _ _ _ _ hk).trans (aj _ _ _ _ hk))).trans (o2 k hk)
 have l5:∀ B,B≤b→Below B W X5:=fun B hB=>by rw [← Xb];exact (((l2 B hB).trans (b1 B hB _ _ _)).trans (b1 B hB _ _ _)).trans (b1 B hB _ _ _)
 rw [Xb] at s5 ⊢;have s6:(X5.setCell ⟨b,6,none⟩ v6).heap[b]?=some (.cells #[v0,v1,v2,v3,v4,v5,v6,u7,u8,u9] t (0,0)):=ay s5 v6;have s7:((X5.setCell ⟨b,6,none⟩ v6).setCell ⟨b,7,none⟩ v7).heap[b]?=some (.cells #[v0,v1,v2,v3,v4,v5,v6,v7,u8,u9] t (0,0)):=ay s6 v7;have s8:(((X5.setCell ⟨b,6,none⟩ v6).setCell ⟨b,7,none⟩ v7).setCell ⟨b,8,none⟩ v8).heap[b]?=some (.cells #[v0,v1,v2,v3,v4,v5,v6,v7,v8,u9] t (0,0)):=ay s7 v8;have s9:((((X5.setCell ⟨b,6,none⟩ v6).setCell ⟨b,7,none⟩ v7).setCell ⟨b,8,none⟩ v8).setCell ⟨b,9,none⟩ v9).heap[b]?=some (.cells #[v0,v1,v2,v3,v4,v5,v6,v7,v8,v9] t (0,0)):=ay s8 v9
 exact ⟨_,rfl,s9,fun k hk=>(aj _ _ _ _ hk).trans ((aj _ _ _ _ hk).trans ((aj _ _ _ _ hk).trans ((aj _ _ _ _ hk).trans (o5 k hk)))),fun B hB=>((((l5 B hB).trans (b1 B hB _ _ _)).trans (b1 B hB _ _ _)).trans (b1 B hB _ _ _)).trans (b1 B hB _ _ _)⟩
theorem S9 (w0 w:World) (D OL:List kD) (h m g cap cl:Nat) (v':Value) (hS:St w0.heap.size D h g cap w) (hm:h+m≤D.length) (hlen:D.length≤1000000) (hN:∀ d∈D,pW (sF d.p)) (hO:Br w0.heap.size w0 OL v') (hmo:m≤OL.length) (zB:OL.length≤1000000)
  (heq:∀ i (hi:i<m),(OL[i]'(by omega)).p=(D[h+i]'(by omega)).p∧(OL[i]'(by omega)).a=(D[h+i]'(by omega)).a∧(OL[i]'(by omega)).r=(D[h+i]'(by omega)).r) (hb:Below w0.heap.size w0 w) :
  Calls Tryz.prog 35 #[.slice (some ⟨g,h*10,none⟩) m cl,v'] w fun e w'=>e=.returned (.tuple #[])∧St w0.heap.size D (h+m) g cap w'∧Below w0.heap.size w0 w'∧Ev g w w':=by
 have HS:=hid hS;have HN:=hid hN;have HO:=hid hO;have HE:=hid heq;have HB:=hid hb;obtain ⟨oa,oc,rfl,hoc,_⟩:=hO;obtain ⟨on,hon⟩:∃ n,OL.length=n:=⟨_,rfl⟩;have HON:=hid hon;rw [hon] at HO hmo zB hoc ⊢;clear hS hN heq hb hon
 go_enter Tryz.func35,Tryz.ntmps35
 go_wp2_with fail
 go_loopw [9] (fun iv wr=>∃ i:Nat,iv=.int .i64 i∧i≤m∧Hid (St w0.heap.size D (h+i) g cap wr)∧Hid (Below w0.heap.size w0 wr)∧Hid (Ev g w wr)) (fun iv _=>m - (Go.RowKit.intOf iv).toNat)
 case atStart=>exact ⟨0,rfl,aM _,HS,HB,hid (Ev.refl g w)⟩
 case round =>
  obtain ⟨i,rfl,hi,Qf,FQ,HOr⟩:=hrel;clear HS HB
  by_cases hlt:i<m
  ·have hj:h+i<D.length:=by omega
   have Rp:i<OL.length:=by rw [HON.out];omega
   obtain ⟨a9,c9',e9,_,hrow⟩:=HO.out.later FQ.out;simp only [dh] at e9;obtain ⟨rfl,_,rfl⟩:=e9;obtain ⟨g2,off,rfl,hg2,hat⟩:=hrow.resolve_left (fun h=>by rw [h] at Rp;exact aS _ Rp);obtain ⟨f,e,tx,k,t,pf,pe,ks,aa,cc,x,r,hK⟩:=Bo (hat i Rp);have hEi:=HE.out i hlt;rw [hK.eq] at hEi;have HEI:=hid (And.intro hEi.1.symm (And.intro hEi.2.1.symm hEi.2.2.symm));obtain ⟨y0,hy0⟩:∃ z,aX k=z:=⟨_,rfl⟩;obtain ⟨y1,hy1⟩:∃ z,aX t=z:=⟨_,rfl⟩;obtain ⟨z0,hz0⟩:∃ z,ks.length=z:=⟨_,rfl⟩;have HY:=hid (And.intro hy0 hy1);have hkk:=hK.kids;rw [hz0] at hkk;have HK:=hid hkk
   have dN:Hid (∀ X,Below wr.heap.size wr X→X.cell? ⟨g2,off+i*10,none⟩=some (.int .i64 f)∧X.cell? ⟨g2,off+i*10+1,none⟩=some (.int .i64 e)∧X.cell? ⟨g2,off+i*10+2,none⟩=some (.string tx)∧X.cell? ⟨g2,off+i*10+3,none⟩=some (.string y0)∧X.cell? ⟨g2,off+i*10+4,none⟩=some (.string y1)∧X.cell? ⟨g2,off+i*10+5,none⟩=some (.int .i64 pf)∧X.cell? ⟨g2,off+i*10+6,none⟩=some (.int .i64 pe)∧X.cell? ⟨g2,off+i*10+7,none⟩=some (.slice aa z0 cc)∧X.cell? ⟨g2,off+i*10+8,none⟩=some (.int .i64 x)∧X.cell? ⟨g2,off+i*10+9,none⟩=some (.int .i64 r)):=hid (fun X hX=>by
    have h:=hK.below hX;rw [← hy0,← hy1,← hz0]
    exact ⟨h.c0,h.c1,h.c2,h.c3,h.c4,h.c5,h.c6,h.c7,h.c8,h.c9⟩)
   have hgw:=Qf.out.lt
   have Rb:i<on:=by omega
   clear hat hK hrow hEi hy0 hy1 hz0 Rp hkk
   go_upto_region 3 with fail
   refine aK (S:=fun X=>Below wr.heap.size wr X) (by kernel_rfl) (ah wr.heap.size wr).drew fun ag=>?_
   have vZ:=hid (Qf.out.later (ah wr.heap.size wr).drew);have HV0:=hid (show wr.drew.heap.size=wr.heap.size from rfl);have ND:=hid (mY FQ.out);obtain ⟨V,hV⟩:∃ V,wr.drew=V:=⟨_,rfl⟩;rw [hV] at ag vZ HV0 ND ⊢;clear hV;have HV:=hid ag;refine OP.m 0 rfl (.slice (some ⟨g,h*10,none⟩) m cl) ag ?_;simp only [OP.s];refine OP.m 1 rfl (.int .i64 i) ag ?_;simp only [OP.s];refine OP.t 2 rfl (.pointer (some ⟨g,h*10+i*10,none⟩)) (fun X hX=>zy 12 13 g (h*10) m i cl X rfl rfl rfl hlt) ag ?_;simp only [OP.s];refine OP.m 3 rfl (.slice (some ⟨g2,off,none⟩) on oc) ag ?_;simp only [OP.s];refine OP.m 4 rfl (.int .i64 i) ag ?_;simp only [OP.s];refine OP.t 5 rfl (.pointer (some ⟨g2,off+i*10,none⟩)) (fun X hX=>zy 15 16 g2 off on i oc X rfl rfl rfl Rb) ag ?_;simp only [OP.s];refine OP.t 6 rfl (.agg #[.int .i64 f,.int .i64 e,.string tx,.string y0,.string y1,.int .i64 pf,.int .i64 pe,.slice aa z0 cc,.int .i64 x,.int .i64 r]) (fun X hX=>by obtain ⟨k0,k1,k2,k3,k4,k5,k6,k7,k8,k9⟩:=dN.out X hX;go_simp) ag ?_;simp only [OP.s]
   refine OP.r 7 rfl fun K hK=>?_
   go_simp
   obtain ⟨X1,hX1,f1,b1,z1⟩:=gY V (.cells #[.int .i64 0,.int .i64 0,.string ⟨#[]⟩,.string ⟨#[]⟩,.string ⟨#[]⟩,.int .i64 0,.int .i64 0,.slice none 0 0,.int .i64 0,.int .i64 0] 52);rw [hX1];rw [HV0.out] at f1 b1 z1 ⊢;have GH:=hid (vZ.out.later (by rw [HV0.out];exact b1));have HB1:=hid (ND.out.trans (b1.mono FQ.out.size));have hb1:=HV.out.trans b1;clear hX1
   refine hK.out _ _ hb1 fun ag=>?_
   try simp only [OP.s]
   clear hK K;refine OP.m 8 rfl (.pointer (some ⟨g,h*10+i*10,none⟩)) ag ?_;simp only [OP.s]
   refine OP.r 9 rfl fun K hK=>?_
   obtain ⟨⟨k0,k1,k2,k3,k4,k5,k6,k7,k8,k9⟩,kf⟩:=nV f1;obtain ⟨X2,hX2,f2,o2,b2⟩:=VR (.int .i64 f) (.int .i64 e) (.string tx) (.string y0) (.string y1) (.int .i64 pf) (.int .i64 pe) (.slice aa z0 cc) (.int .i64 x) (.int .i64 r) f1
   go_simp
   have hb2:Below wr.heap.size wr X2:=hb1.trans (b2 _ (ae _));have HS2:=hid (Qf.out.later hb2);have HB2:=hid (FQ.out.trans (hb2.mono FQ.out.size));have uG:=hid (HOr.out.below hb2);clear k0 k1 k2 k3 k4 k5 k6 k7 k8 k9 kf hX2 f1 b1 z1 o2 b2 GH HB1
   refine hK.out _ _ hb2 fun ag=>?_
   try simp only [OP.s]
   clear hK K;refine bz (by kernel_rfl) ?_ _;obtain ⟨B6,KE⟩:∃ b,wr.heap.size=b:=⟨_,rfl⟩
   have hgB:g≠B6:=by omega
   have Zb:=hid (aU.later (R':=fun _=>True) (fun b hb _=>(FQ.out.trans (hb2.mono FQ.out.size)).block b hb) (fun _ _=>trivial) _ _ (aU.later (W':=w0) (R':=fun k=>k<w0.heap.size) (fun b hb _=>(FQ.out.block b hb).symm) (fun _ h=>h) _ _ HK.out));rw [KE] at f2 ⊢;clear ag hb2 hb1 HV vZ HV0 ND dN Qf FQ hgw KE
   go_upto_region 4 with fail
   refine aK (S:=fun X=>X.heap[B6]?=some (.cells #[.int .i64 f,.int .i64 e,.string tx,.string y0,.string y1,.int .i64 pf,.int .i64 pe,.slice aa z0 cc,.int .i64 x,.int .i64 r] 52 (0,0))) (by kernel_rfl) f2 fun ag=>?_
   have KC:=hid (HS2.out.later (ah X2.heap.size X2).drew);have HB3:=hid (mY HB2.out);have nU:=hid (uG.out.below (ah X2.heap.size X2).drew);have Z9:=hid (aU.later (R:=fun _=>True) (R':=fun _=>True) (W:=X2) (W':=X2.drew) (fun _ _ _=>rfl) (fun _ h=>h) _ _ Zb.out);obtain ⟨V,hV⟩:∃ V,X2.drew=V:=⟨_,rfl⟩;rw [hV] at ag KC HB3 Z9 nU ⊢;clear hV f2 HS2 HB2 Zb uG;have hH:=hid ag;refine OP.m 0 rfl (.pointer (some ⟨g,h*10+i*10,none⟩)) ag ?_;simp only [OP.s];refine OP.m 1 rfl (.pointer (some ⟨g,h*10+i*10,none⟩)) ag ?_;simp only [OP.s];refine OP.m 2 rfl (.pointer (some ⟨g,h*10+i*10,none⟩)) ag ?_;simp only [OP.s];refine OP.m 3 rfl (.pointer (some ⟨B6,3,none⟩)) ag ?_;simp only [OP.s];refine OP.t 4 rfl (.agg #[.string y0,.string y1,.int .i64 pf,.int .i64 pe,.slice aa z0 cc]) (fun X hX=>by obtain ⟨⟨k0,k1,k2,k3,k4,k5,k6,k7,k8,k9⟩,_⟩:=nV hX;go_simp) ag ?_;simp only [OP.s];refine OP.m 5 rfl (.pointer (some ⟨B6,8,none⟩)) ag ?_;simp only [OP.s];refine OP.t 6 rfl (.int .i64 x) (fun X hX=>by obtain ⟨⟨k0,k1,k2,k3,k4,k5,k6,k7,k8,k9⟩,_⟩:=nV hX;go_simp) ag ?_;simp only [OP.s];refine OP.m 7 rfl (.pointer (some ⟨B6,9,none⟩)) ag ?_;simp only [OP.s];refine OP.t 8 rfl (.int .i64 r) (fun X hX=>by obtain ⟨⟨k0,k1,k2,k3,k4,k5,k6,k7,k8,k9⟩,_⟩:=nV hX;go_simp) ag ?_;simp only [OP.s];refine OP.t 9 rfl (.pointer (some ⟨g,h*10+i*10,none⟩)) (fun X hX=>by go_simp) ag ?_;simp only [OP.s];refine OP.m 10 rfl (.pointer (some ⟨g,h*10+i*10+3,none⟩)) ag ?_;simp only [OP.s]
   refine OP.r 11 rfl fun K hK=>?_
   obtain ⟨cur,h1,h2,⟨c0,c1,c2,c3,c4,c5,c6,c7,c8,c9⟩,cf⟩:=KC.out.cells hj (o:=h*10+i*10) (by omega);obtain ⟨W1,ajo,hW1,e2,e3,e4,e5,e6,e7⟩:=zo (o:=h*10+i*10+3) (.string y0) (.string y1) (.int .i64 pf) (.int .i64 pe) (.slice aa z0 cc) h1 (by omega);obtain ⟨W',yc,EB,hb4,Xj⟩:=KC.out.done hj (o:=h*10+i*10) (by omega) HN.out (x:=x) (r:=r) HEI.out Z9.out HY.out.1 HY.out.2;rw [hW1] at yc;have d8:W1.cell? ⟨g,h*10+i*10+8,none⟩=some (.int .i64 0):=(jN e2 _).trans ((e5 _ (by omega)).trans ((jN h1 _).symm.trans c8));have d9:W1.cell? ⟨g,h*10+i*10+9,none⟩=some (.int .i64 0):=(jN e2 _).trans ((e5 _ (by omega)).trans ((jN h1 _).symm.trans c9));have df:=yu e2;have Yt:=hid EB;have vw:=hid (HB3.out.trans hb4);have xE:=hid (nU.out.step hb4 Xj);have jC:=(e6 B6 (Ne.symm hgB)).trans hH.out;have BN:(W1.setCell ⟨g,h*10+i*10+8,none⟩ (.int .i64 x)).heap[B6]?=some (.cells #[.int .i64 f,.int .i64 e,.string tx,.string y0,.string y1,.int .i64 pf,.int .i64 pe,.slice aa z0 cc,.int .i64 x,.int .i64 r] 52 (0,0)):=(aj _ _ _ _ (by show B6≠g;exact Ne.symm hgB)).trans jC
   have Qd:W'.heap[B6]?=some (.cells #[.int .i64 f,.int .i64 e,.string tx,.string y0,.string y1,.int .i64 pf,.int .i64 pe,.slice aa z0 cc,.int .i64 x,.int .i64 r] 52 (0,0)):=by
    rw [← yc]
    exact (aj _ _ _ _ (by show B6≠g;exact Ne.symm hgB)).trans BN
   clear e3 e4 e5 e6 e7 EB hb4 Xj e2 h1 h2 c0 c1 c2 c8 c9
   go_simp
   clear c3 c4 c5 c6 c7 cf hW1
   refine hK.out _ _ jC fun ag=>?_
   try simp only [OP.s]
   clear hK K;refine OP.t 12 rfl (.pointer (some ⟨g,h*10+i*10,none⟩)) (fun X hX=>by go_simp) ag ?_;simp only [OP.s];refine OP.m 13 rfl (.pointer (some ⟨g,h*10+i*10+8,none⟩)) ag ?_;simp only [OP.s]
   refine OP.r 14 rfl fun K hK=>?_
   have dd9:(W1.setCell ⟨g,h*10+i*10+8,none⟩ (.int .i64 x)).cell? ⟨g,h*10+i*10+9,none⟩=some (.int .i64 0):=by go_simp
   have ddf:(W1.setCell ⟨g,h*10+i*10+8,none⟩ (.int .i64 x)).frozen? ⟨g,h*10+i*10+9,none⟩=false:=by have:=df (h*10+i*10+9);go_simp
   have df8:=df (h*10+i*10+8)
   go_simp
   refine hK.out _ _ BN fun ag=>?_
   try simp only [OP.s]
   clear hK K;refine OP.t 15 rfl (.pointer (some ⟨g,h*10+i*10,none⟩)) (fun X hX=>by go_simp) ag ?_;simp only [OP.s];refine OP.m 16 rfl (.pointer (some ⟨g,h*10+i*10+9,none⟩)) ag ?_;simp only [OP.s]
   refine OP.r 17 rfl fun K hK=>?_
   go_simp
   refine hK.out _ _ Qd fun ag=>?_
   try simp only [OP.s]
   clear hK K;refine bz (by kernel_rfl) ?_ _;clear ag jC BN Qd dd9 ddf df8 d8 d9 df yc
   go_wp2_with fail
   go_roundw
   case rel=>exact ⟨_,_,_,_,⟨i+1,rfl,by omega,Yt⟩,rfl,rfl,rfl,by go_num⟩
   case measure=>simp [Go.RowKit.intOf];omega
  ·obtain rfl:i=m:=by omega
   go_wp2_with fail
   exact fT (aD rfl _ _ _) rfl ⟨rfl,Qf.out,FQ.out,HOr.out⟩
end Ud
namespace J
open Go.RowKit
open Go.Lib hiding intOf
open U S T
mutual
theorem zC {W:World} {R:Nat→Prop}:∀ (p:Pt) (lv:Value),aU W R p lv→aU W (fun k=>R k∧k<W.heap.size) p lv
 | .mk k t f e ks,lv,h=>by
  obtain ⟨a,cap,h1,h0,h2⟩:=h;refine ⟨a,cap,h1,h0,?_⟩
  rcases h2 with h2|⟨g,off,xs,h3,h4,h5,h6⟩
  ·exact .inl h2
  ·cases ks with
   | nil=>exact .inl rfl
   | cons p r =>
    have hl:g<W.heap.size:=by
     obtain ⟨CQ,rest,rfl,_,_⟩:=h6
     cases p
     exact aY W _ (h5 0 _ rfl)
    exact .inr ⟨g,off,xs,h3,⟨h4,hl⟩,h5,DV _ _ h6⟩
theorem DV {W:World} {R:Nat→Prop}:∀ (l:List Pt) (xs:List Value),aP W R l xs→aP W (fun k=>R k∧k<W.heap.size) l xs
 | [],_,h=>h
 | p :: r,xs,h=>by
  obtain ⟨lv,rest,h1,h2,h3⟩:=h
  exact ⟨lv,rest,h1,zC p lv h2,DV r rest h3⟩
end
theorem VS {W:World} {R:Nat→Prop} {l:List Pt} {xs:List Value} (h:aP W R l xs):aP W (fun k=>R k∧k<W.heap.size) l xs:=DV l xs h
structure Acc (H:Nat) (b:Int) (ks:List Pt) (c0 c1 c2 c3:Value) (i:Nat) (vO:Value) (X:World):Prop where
 o:X.heap[H+1+1]?=some (.cells #[c0,c1,c2,c3,vO] 49 (0,0))
 q:X.heap[H+1]?=some (.cells #[.string ⟨#[]⟩,.string ⟨#[]⟩,.int .i64 0,.int .i64 0,.slice none 0 0] 49 (0,0))
 row:∃ ys:List Value,X.ownsRow (H+3) 49 5 vO i ys∧aP X (fun k=>H+3≤k∧vO.ownBlock≠some k) (kX b (ks.take i)) ys
theorem Acc.below {H i:Nat} {b:Int} {ks:List Pt} {c0 c1 c2 c3 vO:Value} {X X':World} (h:Acc H b ks c0 c1 c2 c3 i vO X) (hb:Below X.heap.size X X'):Acc H b ks c0 c1 c2 c3 i vO X':=by
 obtain ⟨h1,h2,ys,h3,h4⟩:=h
 exact ⟨(hb.block _ (af.1 h1).1).trans h1,(hb.block _ (af.1 h2).1).trans h2,ys,aR h3 hb,sD h4 hb⟩
theorem Acc.add {H i:Nat} {b:Int} {ks:List Pt} {c0 c1 c2 c3 vO:Value} {X w6:World} {g5 c5:Nat} {ys:List Value} {p:Pt} {lv:Value} (hi:i<ks.length) (hp:lW b ks[i]=p) (h1:X.heap[H+1+1]?=some (.cells #[c0,c1,c2,c3,vO] 49 (0,0)))
  (h2:X.heap[H+1]?=some (.cells #[.string ⟨#[]⟩,.string ⟨#[]⟩,.int .i64 0,.int .i64 0,.slice none 0 0] 49 (0,0))) (h3:X.ownsRow (H+3) 49 5 vO i ys) (h4:aP X (fun k=>H+3≤k∧vO.ownBlock≠some k) (kX b (ks.take i)) ys)
  (hk:aU X (fun k=>H+3≤k∧vO.ownBlock≠some k∧k<X.heap.size) p lv)
  (bP:w6.ownsRow (H+3) 49 5 (.slice (some ⟨g5,0,none⟩) (i+1) c5) (i+1) (ys++five p lv)) (aN:X.grownBy w6 vO.ownBlock) (hat:vO.ownBlock=some g5∨g5=X.heap.size) :
  w6.cell? ⟨H+1+1,4,none⟩=some vO∧w6.frozen? ⟨H+1+1,4,none⟩=false∧Acc H b ks c0 c1 c2 c3 (i+1) (.slice (some ⟨g5,0,none⟩) (i+1) c5) (w6.setCell ⟨H+1+1,4,none⟩ (.slice (some ⟨g5,0,none⟩) (i+1) c5))∧Below (H+1) X (w6.setCell ⟨H+1+1,4,none⟩ (.slice (some ⟨g5,0,none⟩) (i+1) c5)):=by
 have hO:∀ k,k<H+3→vO.ownBlock≠some k:=fun k hk e=>by have:=(h3.lt k e).1;omega
 have l1:=(af.1 h1).1;have l2:=(af.1 h2).1;have b1:=(aN.block _ l1 (fun e=>hO _ (by omega) e.symm)).trans h1;have b2:=(aN.block _ l2 (fun e=>hO _ (by omega) e.symm)).trans h2
 have hset:∀ k,k≠H+1+1→(w6.setCell ⟨H+1+1,4,none⟩ (.slice (some ⟨g5,0,none⟩) (i+1) c5)).heap[k]?=w6.heap[k]?:=fun k hk=>aj _ _ _ _ hk
 have hg5:H+3≤g5:=(bP.lt g5 rfl).1
 refine ⟨by simp [World.cell?,b1],by simp [World.frozen?,b1],⟨ay b1 _,(hset _ (by omega)).trans b2,ys++five p lv,?_,?_⟩,?_⟩
 ·refine ⟨bP.1,?_⟩
  rcases bP.2 with h|⟨g,cap,cur,hv,h5,h6,h7⟩
  ·exact .inl h
  ·exact .inr ⟨g,cap,cur,hv,h5,(hset g (by omega)).trans h6,h7⟩
 ·rw [pK b hi,hp]
  have keep:∀ k,(H+3≤k∧vO.ownBlock≠some k)→k<X.heap.size→(w6.setCell ⟨H+1+1,4,none⟩ (.slice (some ⟨g5,0,none⟩) (i+1) c5)).heap[k]?=X.heap[k]?:=fun k hk hl=>(hset k (by omega)).trans (aN.block k hl (fun e=>hk.2 e.symm))
  have rr:∀ k,(H+3≤k∧vO.ownBlock≠some k)→k<X.heap.size→(H+3≤k∧(Value.slice (some ⟨g5,0,none⟩) (i+1) c5).ownBlock≠some k):=fun k hk hl=>⟨hk.1,fun e=>by
   have e:g5=k:=by simpa [Value.ownBlock] using e
   rcases hat with h|h
   ·exact hk.2 (by rw [← e];exact h)
   ·omega⟩
  have ltL:∀ {l:List Pt} {zs:List Value},aP X (fun k=>H+3≤k∧vO.ownBlock≠some k) l zs→aP X (fun k=>(H+3≤k∧vO.ownBlock≠some k)∧k<X.heap.size) l zs:=fun h=>VS h
  refine aP.snoc (aP.later (fun k hk hl=>keep k hk.1 hl) (fun k hk=>rr k hk.1 hk.2) _ _ (ltL h4)) (aU.later (fun k hk hl=>keep k ⟨hk.1,hk.2.1⟩ hl) (fun k hk=>rr k ⟨hk.1,hk.2.1⟩ hk.2.2) _ _ hk)
 ·exact ⟨aN.os,aN.tape,aN.output,by simpa using aN.size,fun k hk=>(hset k (by omega)).trans (aN.block k (by omega) (fun e=>hO k (by omega) e.symm))⟩
end J
namespace Ud
open Go.RowKit
open Go.Lib hiding intOf
open U S Q T J
open K (gu pW Nn qH)
theorem DW (a:Option Addr) (c:Nat) (v':Value) (w:World):Calls Tryz.prog 35 #[.slice a 0 c,v'] w fun e w'=>e=.returned (.tuple #[])∧w=w':=by
 go_enter Tryz.func35,Tryz.ntmps35
 go_wp2_with fail
 go_loopw [9] (fun iv wr=>iv=.int .i64 0∧wr=w) (fun _ _=>0)
 case atStart=>exact ⟨rfl,rfl⟩
 case round =>
  obtain ⟨rfl,rfl⟩:=hrel
  go_wp2_with fail
  exact fT (aD rfl _ _ _) rfl ⟨rfl,rfl⟩
theorem wG (a:Option Addr) (c:Nat) (w:World):Calls Tryz.prog 36 #[.slice a 0 c] w fun e w'=>e=.returned (.tuple #[])∧w=w':=by
 go_enter Tryz.func36,Tryz.ntmps36
 go_wp2_with fail
 go_loopw [6] (fun iv wr=>iv=.int .i64 0∧wr=w) (fun _ _=>0)
 case atStart=>exact ⟨rfl,rfl⟩
 case round =>
  obtain ⟨rfl,rfl⟩:=hrel
  go_wp2_with fail
  exact fT (aD rfl _ _ _) rfl ⟨rfl,rfl⟩
def Seg (g h m:Nat) (v:Value):Prop:=∃ a c,v=.slice a m c∧(m=0∨a=some ⟨g,h*10,none⟩)
theorem J8 (w0 w:World) (D OL:List kD) (h m g cap:Nat) (v v':Value) (hv:Seg g h m v) (hS:St w0.heap.size D h g cap w) (hm:h+m≤D.length) (hlen:D.length≤1000000) (hN:∀ d∈D,pW (sF d.p)) (hO:m=0∨Br w0.heap.size w0 OL v') (hmo:m≤OL.length) (zB:OL.length≤1000000)
  (heq:∀ i (hi:i<m),(OL[i]'(by omega)).p=(D[h+i]'(by omega)).p∧(OL[i]'(by omega)).a=(D[h+i]'(by omega)).a∧(OL[i]'(by omega)).r=(D[h+i]'(by omega)).r) (hb:Below w0.heap.size w0 w) :
  Calls Tryz.prog 35 #[v,v'] w fun e w'=>e=.returned (.tuple #[])∧St w0.heap.size D (h+m) g cap w'∧Below w0.heap.size w0 w'∧Ev g w w':=by
 obtain ⟨a,c,rfl,ha⟩:=hv
 rcases gW m with h0|h0
 ·subst h0
  refine (DW a c v' w).mono ?_;rintro e w' ⟨rfl,rfl⟩
  exact ⟨rfl,hS,hb,Ev.refl g w⟩
 ·obtain rfl:=ha.resolve_left (by omega)
  exact S9 w0 w D OL h m g cap c v' hS hm hlen hN (hO.resolve_left (by omega)) hmo zB heq hb
theorem Ta (w0 w:World) (D:List kD) (h m g cap:Nat) (v:Value) (hv:Seg g h m v) (hS:St w0.heap.size D h g cap w) (hm:h+m≤D.length) (hlen:D.length≤1000000) (hN:∀ d∈D,pW (sF d.p)) (hD:∀ d∈D,declT d.tx=(d.p,d.a,d.r)∧d.tx.size≤600)
  (hT:rM w0) (hG:qH w0) (hb:Below w0.heap.size w0 w) :
  Calls Tryz.prog 36 #[v] w fun e w'=>e=.returned (.tuple #[])∧St w0.heap.size D (h+m) g cap w'∧Below w0.heap.size w0 w'∧Ev g w w':=by
 obtain ⟨a,c,rfl,ha⟩:=hv
 rcases gW m with h0|h0
 ·subst h0
  refine (wG a c w).mono ?_;rintro e w' ⟨rfl,rfl⟩
  exact ⟨rfl,hS,hb,Ev.refl g w⟩
 ·obtain rfl:=ha.resolve_left (by omega)
  exact DU w0 w D h m g cap c hS hm hlen hN hD hT hG hb
theorem Tc (W:World):(sizeOf (Tryz.prog.elem 56)).run Tryz.prog W=.ok 10 W:=by
 rw [show Tryz.prog.elem 56=52 by kernel_rfl];obtain ⟨i0,hi0,_,hz1,_⟩:=eB SY;rw [run_sizeOf (w:=W) hi0]
 have:Tryz.prog.cellsOf 52=10:=by kernel_rfl
 rw [this]
theorem afI (a:Option Addr) (n c i:Nat) (hi:i≤c):∀ W,(Instr.slice 56 (.slice a n c) none (some (.int .i64 i)) none).run Tryz.prog W=.ok (.slice (if c=0 then a else a.map (·.add (0*10))) i c) W:=fun W=>by
 rw [run_slice_h (P:=Tryz.prog) (w:=W) 56 a n c Tryz.underlying56 .i64 i (by omega) (by omega),Tc]
 simp [Result.andThen,sliced]
theorem Xk (a:Option Addr) (n c i:Nat) (hi:i≤n):∀ W,(Instr.slice 56 (.slice a n c) (some (.int .i64 i)) none none).run Tryz.prog W=.ok (.slice (if c=i then a else a.map (·.add (i*10))) (n - i) (c - i)) W:=fun W=>by
 rw [run_slice_l (P:=Tryz.prog) (w:=W) 56 a n c Tryz.underlying56 .i64 i (by omega) (by omega),Tc]
 simp [Result.andThen,sliced]
theorem ab3 (a:Option Addr) (n c i j:Nat) (hi:i≤j) (hj:j≤c):∀ W,(Instr.slice 56 (.slice a n c) (some (.int .i64 i)) (some (.int .i64 j)) none).run Tryz.prog W=.ok (.slice (if c=i then a else a.map (·.add (i*10))) (j - i) (c - i)) W:=fun W=>by
 rw [run_slice_lh (P:=Tryz.prog) (w:=W) 56 a n c Tryz.underlying56 .i64 .i64 i j (by omega) (by omega) (by omega),Tc]
 simp [Result.andThen,sliced]
theorem ab4 {W:World} {B n c g:Nat} {D:List kD} (h:W.ownsRow B 52 10 (.slice (some ⟨g,0,none⟩) n c) n (nA D)) (hn:D.length=n):St B D 0 g c W:=by
 have hcell:=fun j hj=>h.cellAt j hj
 rcases h.2 with ⟨h',_⟩|⟨g',cap',cur,h',hB,hg,hnc,_,hsz,_⟩
 ·simp at h'
 ·simp only [dh,bS,Addr.mk.injEq,and_true,true_and] at h'
  obtain ⟨rfl,rfl⟩:=h';refine ⟨hB,cur,hg,hsz,by omega,fun i _ h0=>absurd h0 (aS _),fun i hi _ q u hq=>?_⟩;have tY:=(aL.1 hq).1;rw [gF] at tY;rw [← jN hg,hcell _ (by omega),J6 D i q hi tY]
  exact hq
theorem Po {H:Nat} {D:List kD} {g cap:Nat} {W:World} (h:St H D D.length g cap W):iY H (fun _=>True) W D (.slice (some ⟨g,0,none⟩) D.length cap):=by
 have hl:=h.lt;obtain ⟨ge,cur,h1,h2,h3,h4,_⟩:=h;refine ⟨_,_,rfl,h3,.inr ⟨g,0,rfl,ge,hl,fun i hi=>?_⟩⟩;obtain ⟨lv,e1,e2⟩:=h4 i hi hi
 exact ⟨lv,fun q u hq=>by rw [bA,jN h1];exact e1 q u hq,e2⟩
theorem Ze {w:World} {l:List kD} {v:Value} (h:iY 0 (fun _=>True) w l v):Br w.heap.size w l v:=by
 obtain ⟨a,c,h1,h2,h3⟩:=h;refine ⟨a,c,h1,h2,h3.imp id ?_⟩;rintro ⟨g,off,e1,_,e3,e4⟩;refine ⟨g,off,e1,e3,fun i hi=>?_⟩;obtain ⟨lv,k1,k2⟩:=e4 i hi
 exact ⟨lv,k1,aU.later (fun _ _ _=>rfl) (fun k hk=>hk.2) _ _ (zC _ _ k2)⟩
theorem Td {H:Nat} {w:World} {l:List kD} {a:Option Addr} {n c i:Nat} (h:Br H w l (.slice a n c)) (hi:i<l.length):Br H w (l.drop i) (.slice (if c=i then a else a.map (·.add (i*10))) (n - i) (c - i)):=by
 obtain ⟨a',c',h1,h2,h3⟩:=h;simp only [dh] at h1;obtain ⟨rfl,rfl,rfl⟩:=h1;obtain ⟨g,off,rfl,e2,e3⟩:=h3.resolve_left (fun h=>by rw [h] at hi;exact aS _ hi);rw [ai (by omega)];refine ⟨_,_,by rw [bC],by rw [bC];omega,.inr ⟨g,off+i*10,by simp [Addr.add_lit],e2,fun j hj=>?_⟩⟩;rw [bC] at hj;have:=e3 (i+j) (by omega);rw [List.getElem_drop,show off+i*10+j*10=off+(i+j)*10 by omega]
 exact this
def Qg (D:List kD):Prop:=∀ d∈D,declT d.tx=(d.p,d.a,d.r)∧d.tx.size≤600
theorem tZ (s:ByteArray) (hs:s.size≤600):Qg (decls s):=by
 intro d hd
 unfold decls at hd
 obtain ⟨q,_,rfl⟩:=List.mem_map.1 hd;refine ⟨rfl,?_⟩
 show (s.extract q.f q.e).size≤600
 rw [ByteArray.size_extract]
 omega
theorem Te {D:List kD} (h:Qg D):∀ d∈D,pW (sF d.p):=fun d hd=>by
 have:=VG d.tx;rw [(h d hd).1] at this
 exact this
theorem nW (s:ByteArray):(decls s).length≤s.size+1:=by
 have h1:=Pd s;have h2:=pJ s.toList;rw [dP] at h2
 omega
theorem Pp {D OL:List kD} (hD:Qg D) (hO:Qg OL) (i:Nat) (hi:i<nk (mG D) (mG OL)) (h1:i<OL.length) (h2:0+i<D.length):OL[i].p=D[0+i].p∧OL[i].a=D[0+i].a∧OL[i].r=D[0+i].r:=by
 have h:=(tV (mG D) (mG OL)).2.1 i hi
 unfold gH mG at h
 simp only [bA] at h2 ⊢;rw [dK,dK,aB h1,aB h2,decide_eq_true_iff] at h
 have h3:D[i].tx=OL[i].tx:=by simpa using h
 have h4:=(hD _ (bG h2)).1;rw [h3,(hO _ (bG h1)).1] at h4
 exact ⟨congrArg Prod.fst h4,congrArg (fun z=>z.2.1) h4,congrArg (fun z=>z.2.2) h4⟩
theorem Pq {D OL:List kD} (hD:Qg D) (hO:Qg OL) (i n k:Nat) (hi:i<mI (mG D) (mG OL)) (hn:n=D.length - mI (mG D) (mG OL)) (hk:k=OL.length - mI (mG D) (mG OL)) (h1:i<(OL.drop k).length) (h2:n+i<D.length):(OL.drop k)[i].p=D[n+i].p∧(OL.drop k)[i].a=D[n+i].a∧(OL.drop k)[i].r=D[n+i].r:=by
 have hle:=Co (mG D) (mG OL);have ht:=(wF (mG D) (mG OL)).2.1 (mI (mG D) (mG OL) - 1 - i) (by omega);rw [jP,jP] at hle;rw [bC] at h1
 have e1:D.length - 1 - (mI (mG D) (mG OL) - 1 - i)=n+i:=by omega
 have e2:OL.length - 1 - (mI (mG D) (mG OL) - 1 - i)=k+i:=by omega
 have h1':k+i<OL.length:=by omega
 unfold gT at ht
 rw [jP,jP,e1,e2] at ht
 unfold mG at ht
 rw [dK,dK,aB h1',aB h2,decide_eq_true_iff] at ht;rw [List.getElem_drop]
 have h3:D[n+i].tx=OL[k+i].tx:=by simpa using ht
 have h4:=(hD _ (bG h2)).1;rw [h3,(hO _ (bG h1')).1] at h4
 exact ⟨congrArg Prod.fst h4,congrArg (fun z=>z.2.1) h4,congrArg (fun z=>z.2.2) h4⟩
def uf (d:Nat):Value:=.pointer (some ⟨d,0,none⟩)
structure Un (B:Nat) (W:World) (d:Nat) (s:ByteArray) (k:Nat):Prop where
 ge:B≤d
 row:∃ v,W.heap[d]?=some (.cells #[v,.string s,.int .i64 k] 58 (0,0))∧iY 0 (fun _=>True) W (decls s) v
theorem Un.later {B:Nat} {W W':World} {d:Nat} {s:ByteArray} {k:Nat} (h:Un B W d s k) (hb:Below W.heap.size W W'):Un B W' d s k:=by
 obtain ⟨ge,v,h1,h2⟩:=h
 exact ⟨ge,v,(hb.block _ (af.1 h1).1).trans h1,h2.later hb⟩
theorem jG {W:World} {b:Nat} {v0 v1 v2:Value} {t:TypeId} (h:W.heap[b]?=some (.cells #[v0,v1,v2] t (0,0))) :
  (W.cell? ⟨b,0,none⟩=some v0∧W.cell? ⟨b,1,none⟩=some v1∧W.cell? ⟨b,2,none⟩=some v2)∧∀ j,W.frozen? ⟨b,j,none⟩=false :=
 ⟨⟨by simp [World.cell?,h],by simp [World.cell?,h],by simp [World.cell?,h]⟩,fun j=>by simp [World.frozen?,h]⟩
theorem Ps {W:World} {b:Nat} {v0 v1 v2:Value} {t:TypeId} (v:Value) (h:W.heap[b]?=some (.cells #[v0,v1,v2] t (0,0))) :
  ∃ W',W.setCell ⟨b,2,none⟩ v=W'∧W'.heap[b]?=some (.cells #[v0,v1,v] t (0,0))∧(∀ k,k≠b→W'.heap[k]?=W.heap[k]?)∧∀ B,B≤b→Below B W W' :=
 ⟨_,rfl,ay h v,fun k hk=>aj _ _ _ _ hk,fun B hB=>⟨rfl,rfl,rfl,by simp,fun k hk=>aj _ _ _ _ (by show k≠b;omega)⟩⟩
structure Fill (w0:World) (D OL:List kD) (v v' v1 v2 v3 v4:Value) (hd tl rs n on:Nat):Prop where
 s1:∀ W,(Instr.slice 56 v none (some (.int .i64 hd)) none).run Tryz.prog W=.ok v1 W
 s2:∀ W,(Instr.slice 56 v (some (.int .i64 hd)) (some (.int .i64 rs)) none).run Tryz.prog W=.ok v2 W
 s3:∀ W,(Instr.slice 56 v (some (.int .i64 rs)) none none).run Tryz.prog W=.ok v3 W
 s4:∀ W,(Instr.slice 56 v' (some (.int .i64 ((on - tl:Nat):Int))) none none).run Tryz.prog W=.ok v4 W
 fill:∀ (W:World) (d:Nat),(D=[]∨∃ g c,v=.slice (some ⟨g,0,none⟩) n c∧St w0.heap.size D 0 g c W∧d≠g)→Below w0.heap.size w0 W→d<W.heap.size →
  Calls Tryz.prog 35 #[v1,v'] W fun e W1=>e=.returned (.tuple #[])∧Below w0.heap.size w0 W1∧W1.heap[d]?=W.heap[d]?∧d<W1.heap.size ∧
   Calls Tryz.prog 36 #[v2] W1 fun e W2=>e=.returned (.tuple #[])∧Below w0.heap.size w0 W2∧W2.heap[d]?=W1.heap[d]?∧d<W2.heap.size ∧
    ∀ W2',Below W2.heap.size W2 W2'→Calls Tryz.prog 35 #[v3,v4] W2' fun e W3=>e=.returned (.tuple #[])∧Below w0.heap.size w0 W3∧W3.heap[d]?=W2.heap[d]?∧d<W3.heap.size∧iY w0.heap.size (fun _=>True) W3 D v
theorem Tf (w0:World) (D OL:List kD) (a:Option Addr) (c n hd tl rs on:Nat) (v':Value) (hD:Qg D) (hO:Qg OL) (hlen:D.length≤1000000) (zB:OL.length≤1000000) (hT:rM w0) (hG:qH w0) (hv':iY 0 (fun _=>True) w0 OL v')
  (hn:D.length=n) (hon:OL.length=on) (hhd:nk (mG D) (mG OL)=hd) (htl:mI (mG D) (mG OL)=tl) (hrs:n - tl=rs) (hc:n≤c) (hnil:D=[]→iY w0.heap.size (fun _=>True) w0 [] (.slice a n c)) :
  ∃ v1 v2 v3 v4,Fill w0 D OL (.slice a n c) v' v1 v2 v3 v4 hd tl rs n on:=by
 have hle:=Co (mG D) (mG OL);rw [jP,jP,hn,hon,hhd,htl] at hle;have hold:=Ze hv';obtain ⟨oa,oc,rfl⟩:=ny hv';obtain ⟨_,hoc,_⟩:=uJ hv';rw [hon] at hoc;refine ⟨_,_,_,_,afI a n c hd (by omega),ab3 a n c hd rs (by omega) (by omega),Xk a n c rs (by omega),by rw [hon];exact Xk oa on oc (on - tl) (by omega),?_⟩;rintro W d hst hb T9
 rcases hst with h0|⟨g,c2,hv,hS,hdg⟩
 ·have hn0:n=0:=by rw [← hn,h0];rfl
  have e1:hd=0:=by omega
  have e2:rs=0:=by omega
  have hdc:=hnil h0;subst h0;subst hn0;subst e1;subst e2;refine (DW _ _ _ W).mono ?_;rintro e W1 ⟨rfl,rfl⟩;refine ⟨rfl,hb,rfl,T9,(wG _ _ W).mono ?_⟩;rintro e W2 ⟨rfl,rfl⟩;refine ⟨rfl,hb,rfl,T9,fun W2' hb2=>(DW _ _ _ W2').mono ?_⟩;rintro e W3 ⟨rfl,rfl⟩
  exact ⟨rfl,hb.trans (hb2.mono hb.size),hb2.block _ T9,aC T9 hb2.size,iY.later (by obtain ⟨a1,a2,a3,a4,_⟩:=hdc;exact ⟨a1,a2,a3,a4,.inl rfl⟩) (W:=w0) (hb.trans (hb2.mono hb.size))⟩
 ·simp only [dh] at hv
  obtain ⟨rfl,_,rfl⟩:=hv;have hN:=Te hD
  have sg1:Seg g 0 hd (.slice (if c=0 then some ⟨g,0,none⟩ else (some (⟨g,0,none⟩:Addr)).map (·.add (0*10))) hd c):=⟨_,_,rfl,by
   by_cases h:hd=0
   ·exact .inl h
   ·right;rw [ai (by omega)];simp [Addr.add_lit]⟩
  have sg2:Seg g (0+hd) (rs - hd) (.slice (if c=hd then some ⟨g,0,none⟩ else (some (⟨g,0,none⟩:Addr)).map (·.add (hd*10))) (rs - hd) (c - hd)):=⟨_,_,rfl,by
   by_cases h:rs - hd=0
   ·exact .inl h
   ·right;rw [ai (by omega),bA];simp [Addr.add_lit]⟩
  have sg3:Seg g (0+hd+(rs - hd)) (n - rs) (.slice (if c=rs then some ⟨g,0,none⟩ else (some (⟨g,0,none⟩:Addr)).map (·.add (rs*10))) (n - rs) (c - rs)):=⟨_,_,rfl,by
   by_cases h:n - rs=0
   ·exact .inl h
   ·right;rw [ai (by omega),show 0+hd+(rs - hd)=rs by omega];simp [Addr.add_lit]⟩
  refine (J8 w0 W D OL 0 hd g c _ _ sg1 hS (by omega) hlen hN (.inr (by rw [hon] at hold ⊢;exact hold)) (by omega) zB (fun i hi=>Pp hD hO i (by omega) (by omega) (by omega)) hb).mono ?_;rintro e W1 ⟨rfl,hS1,hb1,ho1⟩;refine ⟨rfl,hb1,ho1.2 d T9 hdg,aC T9 ho1.1,(Ta w0 W1 D (0+hd) (rs - hd) g c _ sg2 hS1 (by omega) hlen hN hD hT hG hb1).mono ?_⟩;rintro e W2 ⟨rfl,hS2,hb2,ho2⟩;refine ⟨rfl,hb2,ho2.2 d (aC T9 ho1.1) hdg,aC (aC T9 ho1.1) ho2.1,fun W2' hb3=>?_⟩;have hd2:d<W2.heap.size:=aC (aC T9 ho1.1) ho2.1
  refine (J8 w0 W2' D (OL.drop (on - tl)) (0+hd+(rs - hd)) (n - rs) g c _ _ sg3 (hS2.later hb3) (by omega) hlen hN (by
   by_cases h:n - rs=0
   ·exact .inl h
   ·right;rw [hon] at hold;exact Td hold (by omega)) (by rw [bC];omega) (by rw [bC];omega) (fun i hi=>Pq hD hO i _ _ (by omega) (by omega) (by omega) (by rw [bC];omega) (by omega)) (hb2.trans (hb3.mono hb2.size))).mono ?_
  rintro e W3 ⟨rfl,CY,hb4,ho3⟩;refine ⟨rfl,hb4,(ho3.2 d (aC hd2 hb3.size) hdg).trans (hb3.block _ hd2),aC (aC hd2 hb3.size) ho3.1,?_⟩
  have hfin:0+hd+(rs - hd)+(n - rs)=D.length:=by omega
  rw [hfin] at CY;have:=Po CY;rw [hn] at this
  exact this
end Ud
end Go.Proofs.YtojoahlpgmnbnaaGreatDoor
