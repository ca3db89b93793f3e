/- What the claim needs of the texts UCount, UKeep, JShiftR, UUnit. -/
import Derived.Test.YtojoahlpgmnbnaaGreatDoorUOOp
import Derived.Test.YtojoahlpgmnbnaaGreatDoorUO13
import Derived.Test.YtojoahlpgmnbnaaGreatDoorUO14
import Derived.Deep.AppendLies
set_option maxRecDepth 20000
set_option maxHeartbeats 16000000
namespace Go.Proofs.YtojoahlpgmnbnaaGreatDoor
namespace Ud
open Go.RowKit
open Go.Lib hiding intOf
open U S Q T J
def Ew (W:World) (v:Value) (l:List ByteArray):Prop:=∃ a c,v=.slice a l.length c∧(l=[]∨∃ g off,a=some ⟨g,off,none⟩∧∀ i (hi:i<l.length),W.cell? ⟨g,off+i*10+2,none⟩=some (.string l[i]))
theorem Ew.later {W W':World} {v:Value} {l:List ByteArray} (h:Ew W v l) (hb:Below W.heap.size W W'):Ew W' v l:=by
 obtain ⟨a,c,h1,h2⟩:=h;refine ⟨a,c,h1,h2.imp id ?_⟩;rintro ⟨g,off,e1,e2⟩
 exact ⟨g,off,e1,fun i hi=>(hb.cell (bB W _ (e2 i hi))).trans (e2 i hi)⟩
theorem YR {B:Nat} {R:Nat→Prop} {W:World} {l:List ku} {v:Value} (h:jc B R W l v):Ew W v (nU l):=by
 obtain ⟨a,c,h1,h2,h3⟩:=h;refine ⟨a,c,by rw [kI];exact h1,?_⟩
 rcases h3 with h3|⟨g,off,e1,_,_,e4⟩
 ·exact .inl (by rw [h3];rfl)
 ·refine .inr ⟨g,off,e1,fun i hi=>?_⟩
  have hi2:i<l.length:=by rw [← kI];exact hi
  obtain ⟨f,e,tx,k,t,pf,pe,ks,aa,cc,x,r,hK⟩:=Ba (e4 i hi2);have e5:(nU l)[i]=l[i].tx:=List.getElem_map _;rw [hK.c2,e5,hK.eq]
theorem ze {x:Int} (h0:-1000000000000≤x) (h1:x≤1000000000000):wrap64 x=x:=by
 unfold wrap64
 omega
theorem zf {w:World} {q:Nat} {x:Value} {t:TypeId} (h:w.heap[q]?=some (.cells #[x] t (0,0))):w.cell? ⟨q,0,none⟩=some x∧w.frozen? ⟨q,0,none⟩=false:=by
 unfold World.cell? World.frozen?;rw [h];exact ⟨rfl,rfl⟩
theorem rq {q:Nat} {w W:World} (h:Below q w W):Below q w W.drew:=⟨h.os,h.tape,h.output,h.size,h.block⟩
theorem zg {o:Oper} {a:Act} (x y g off n i c:Nat) (W:World) (ho:o.op=.indexAddr 56 (.tmp x) (.tmp y)) (h1:a.eval (.tmp x)=.slice (some ⟨g,off,none⟩) n c) (h2:a.eval (.tmp y)=.int .i64 i) (hin:i<n):(execOp a.eval o).run Tryz.prog W=.ok (.value (.pointer (some ⟨g,off+i*10,none⟩))) W:=by
 have hm:(0:Int)≤(i:Int):=by omega
 have hm2:(i:Int)<(n:Int):=by omega
 have hr:(Instr.indexAt 56 (.slice (some ⟨g,off,none⟩) n c) (.int .i64 i)).run Tryz.prog W=.ok (.pointer (some ⟨g,off+i*10,none⟩)) W:=by
  simp [go_sem]
  intro h
  omega
 unfold execOp
 rw [ho];simp only [h1,h2,iV,hr,eP,iW]
theorem FE (q A B:Nat) (w:World) (TL TO:List ByteArray) (v v':Value) (left:Nat) (a0 b0 st:Int) (gg:Nat→Bool)
  (hq:w.heap[q]?=some (.cells #[.int .i64 left] 3 (0,0))) (hA:w.cell? ⟨A,0,none⟩=some v) (hB:w.cell? ⟨B,0,none⟩=some v') (hAq:A<q) (hBq:B<q)
  (hv:Ew w v TL) (hv':Ew w v' TO) (hlow:∀ g off n c,TL≠[]→v=.slice (some ⟨g,off,none⟩) n c→g<q) (hlow':∀ g off n c,TO≠[]→v'=.slice (some ⟨g,off,none⟩) n c→g<q)
  (hidx:∀ j:Nat,j<left→∃ x y:Nat,∃ (hx:x<TL.length) (hy:y<TO.length),a0+st*j=x∧b0+st*j=y∧gg j=decide (TL[x]=TO[y]))
  (hst:st=1∨st=-1) (ha:-1000000000≤a0∧a0≤1000000000) (hb:-1000000000≤b0∧b0≤1000000000) (hl:left≤1000000000) :
  Calls Tryz.prog 51 #[.int .i64 a0,.int .i64 b0,.int .i64 st,.pointer (some ⟨q,0,none⟩),.pointer (some ⟨A,0,none⟩),.pointer (some ⟨B,0,none⟩)] w fun e w'=>e=.returned (.int .i64 (cnt gg left 0:Nat))∧w'.heap[q]?=some (.cells #[.int .i64 ((left - cnt gg left 0:Nat):Int)] 3 (0,0))∧Below q w w':=by
 obtain ⟨a,c,rfl,hrow⟩:=hv;obtain ⟨a',c',rfl,hrow'⟩:=hv';have HR:=hid hrow;have Sl:=hid hrow';have HI:=hid hidx;have HS:=hid hst;have HAB:=hid (And.intro ha hb);have HQ:=hid hq;have HL:=hid hlow;have HL':=hid hlow';have hCN:=BX gg left 0 (fun _ h=>absurd h (bq _));rw [bS] at hCN;obtain ⟨R,hR⟩:∃ R,cnt gg left 0=R:=⟨_,rfl⟩;rw [hR] at hCN ⊢;have HC:=hid hCN;obtain ⟨n,hn⟩:∃ n,TL.length=n:=⟨_,rfl⟩;obtain ⟨n',hn'⟩:∃ n,TO.length=n:=⟨_,rfl⟩;have HN:=hid hn;have HN':=hid hn';have HCA:=hid (And.intro hA hB);rw [hn] at hA;rw [hn'] at hB;have HXA:=hid (And.intro hA hB);clear hrow hrow' hidx hst ha hb hq hCN hR hn hn' hA hB hlow hlow'
 go_enter Tryz.func51,Tryz.ntmps51
 go_wp2_with fail
 go_loopw [0,1,10] (fun xv yv jv wr=>∃ (x y:Int) (j m:Nat),xv=.int .i64 x∧yv=.int .i64 y∧jv=.int .i64 j∧j+m=left∧Hid (x=a0+st*j)∧Hid (y=b0+st*j)∧Hid (∀ i,i<j→gg i=true)∧Hid (wr.heap[q]?=some (.cells #[.int .i64 m] 3 (0,0)))∧Hid (Below q w wr)) (fun _ _ jv _=>left - (Go.RowKit.intOf jv).toNat)
 case atStart=>exact ⟨a0,b0,0,left,rfl,rfl,rfl,by omega,hid (by simp),hid (by simp),hid (fun i h=>absurd h (bq _)),HQ,hid (aj _ _)⟩
 case round =>
  obtain ⟨x,y,j,m,rfl,rfl,rfl,hjm,HX,HY,HG,HM,HB⟩:=hrel;have hcA:wr.cell? ⟨A,0,none⟩=some (.slice a n c):=(HB.out.cell (p:=⟨A,0,none⟩) hAq).trans HXA.out.1;have hcB:wr.cell? ⟨B,0,none⟩=some (.slice a' n' c'):=(HB.out.cell (p:=⟨B,0,none⟩) hBq).trans HXA.out.2;have hcq:=(zf HM.out).1
  go_upto_region 2 with fail
  by_cases hm:0<m
  ·obtain ⟨x0,y0,hx0,hy0,ex,ey,eg⟩:=HI.out j (by omega)
   obtain ⟨g,off,rfl,hc⟩:=HR.out.resolve_left (fun h=>by rw [h] at hx0;exact bq _ hx0);obtain ⟨g',off',rfl,hc'⟩:=Sl.out.resolve_left (fun h=>by rw [h] at hy0;exact bq _ hy0);have t1:=(HB.out.cell (p:=⟨g,off+x0*10+2,none⟩) (HL.out _ _ _ _ (fun h=>by rw [h] at hx0;exact bq _ hx0) rfl)).trans (hc x0 hx0);have t2:=(HB.out.cell (p:=⟨g',off'+y0*10+2,none⟩) (HL'.out _ _ _ _ (fun h=>by rw [h] at hy0;exact bq _ hy0) rfl)).trans (hc' y0 hy0);obtain rfl:x=(x0:Int):=HX.out.trans ex;obtain rfl:y=(y0:Int):=HY.out.trans ey;obtain ⟨tx,htx⟩:∃ t,TL[x0]=t:=⟨_,rfl⟩;obtain ⟨ty,hty⟩:∃ t,TO[y0]=t:=⟨_,rfl⟩;rw [htx] at t1 eg;rw [hty] at t2 eg;rw [HN.out] at hx0;rw [HN'.out] at hy0;obtain ⟨bb,hbb⟩:∃ b,decide (tx=ty)=b:=⟨_,rfl⟩;rw [hbb] at eg
   have abO:(tx.toList==ty.toList)=bb:=by
    rw [← hbb,gX,beq_iff_eq,decide_eq_true_iff]
    exact ⟨fun h=>ByteArray.ext (Array.ext' (by rw [← bu,← bu];exact h)),fun h=>by rw [h]⟩
   have HEG:=hid eg;have HJ:=hid (And.intro hx0 hy0);clear hc hc' ex ey htx hty hbb eg
   refine aS (S:=fun X=>X.cell? ⟨q,0,none⟩=some (.int .i64 m)∧X.cell? ⟨A,0,none⟩=some (.slice (some ⟨g,off,none⟩) n c)∧X.cell? ⟨B,0,none⟩=some (.slice (some ⟨g',off',none⟩) n' c')∧X.cell? ⟨g,off+x0*10+2,none⟩=some (.string tx)∧X.cell? ⟨g',off'+y0*10+2,none⟩=some (.string ty)) (by kernel_rfl) ⟨hcq,hcA,hcB,t1,t2⟩ fun ag=>?_
   obtain ⟨V,hV⟩:∃ V,wr.drew=V:=⟨_,rfl⟩;have Am:Hid (V.heap[q]?=some (.cells #[.int .i64 m] 3 (0,0))):=hid (by rw [← hV];exact HM.out);have Nc:Hid (Below q w V):=hid (by rw [← hV];exact rq HB.out);rw [hV] at ag ⊢;clear hV hcq hcA hcB t1 t2 HM HB;refine OP.t 0 rfl (.int .i64 m) (fun X hX=>by obtain ⟨c0,c1,c2,c3,c4⟩:=hX;go_simp) ag ?_;simp only [OP.s];refine OP.t 1 rfl (.bool true) (fun X hX=>by go_simp) ag ?_;simp only [OP.s];refine OP.m 2 rfl (.bool true) ag ?_;simp only [OP.s];refine OP.t 3 rfl (.slice (some ⟨g,off,none⟩) n c) (fun X hX=>by obtain ⟨c0,c1,c2,c3,c4⟩:=hX;go_simp) ag ?_;simp only [OP.s];refine OP.m 4 rfl (.int .i64 x0) ag ?_;simp only [OP.s];refine OP.t 5 rfl (.pointer (some ⟨g,off+x0*10,none⟩)) (fun X hX=>zg 14 15 g off n x0 c X rfl rfl rfl HJ.out.1) ag ?_;simp only [OP.s];refine OP.m 6 rfl (.pointer (some ⟨g,off+x0*10+2,none⟩)) ag ?_;simp only [OP.s];refine OP.t 7 rfl (.string tx) (fun X hX=>by obtain ⟨c0,c1,c2,c3,c4⟩:=hX;go_simp) ag ?_;simp only [OP.s];refine OP.t 8 rfl (.slice (some ⟨g',off',none⟩) n' c') (fun X hX=>by obtain ⟨c0,c1,c2,c3,c4⟩:=hX;go_simp) ag ?_;simp only [OP.s];refine OP.m 9 rfl (.int .i64 y0) ag ?_;simp only [OP.s];refine OP.t 10 rfl (.pointer (some ⟨g',off'+y0*10,none⟩)) (fun X hX=>zg 19 20 g' off' n' y0 c' X rfl rfl rfl HJ.out.2) ag ?_;simp only [OP.s];refine OP.m 11 rfl (.pointer (some ⟨g',off'+y0*10+2,none⟩)) ag ?_;simp only [OP.s];refine OP.t 12 rfl (.string ty) (fun X hX=>by obtain ⟨c0,c1,c2,c3,c4⟩:=hX;go_simp) ag ?_
   simp only [OP.s];refine OP.t 13 rfl (.bool bb) (fun X hX=>by go_simp) ag ?_;simp only [OP.s];refine OP.m 14 rfl (.bool bb) ag ?_;simp only [OP.s];refine bL (by kernel_rfl) ?_ _;clear ag
   cases bb with
   | false =>
    have hRj:R=j:=HC.out.one ⟨by omega,HG.out,.inr HEG.out⟩;clear abO
    go_wp2_with fail
    go_ret
    refine ⟨by rw [hRj];rfl,?_,Nc.out⟩;rw [hRj,show left - j=m by omega]
    exact Am.out
   | true =>
    have Ww:Hid (∀ i,i<j+1→gg i=true):=hid (fun i h=>by
     by_cases h1:i<j
     ·exact HG.out i h1
     ·rw [show i=j by omega];exact HEG.out)
    obtain ⟨cq,fq⟩:=zf Am.out;obtain ⟨m',rfl⟩:∃ k,m=k+1:=⟨m - 1,by omega⟩
    have hm1:(((m'+1:Nat):Int) - 1)=(m':Int):=by omega
    have HXE:=hid (show wrap64 ((x0:Int)+st)=a0+st*((j+1:Nat):Int) by
     have h1:=HX.out;have h2:=HAB.out
     rcases HS.out with rfl|rfl
     ·rw [ze (by omega) (by omega)];omega
     ·rw [ze (by omega) (by omega)];omega)
    have HYE:=hid (show wrap64 ((y0:Int)+st)=b0+st*((j+1:Nat):Int) by
     have h1:=HY.out;have h2:=HAB.out
     rcases HS.out with rfl|rfl
     ·rw [ze (by omega) (by omega)];omega
     ·rw [ze (by omega) (by omega)];omega)
    have hset:=az Am.out (i:=0) (.int .i64 m');have hbs:Below q V (V.setCell ⟨q,0,none⟩ (.int .i64 m')):=⟨rfl,rfl,rfl,by simp,fun k hk=>ak _ _ _ _ (by show k≠q;omega)⟩;have HST:=hid hset;have HBS:=hid (Nc.out.trans hbs);clear abO hset hbs
    go_wp2_with fail
    go_roundw
    case rel=>exact ⟨_,_,j+1,m',rfl,rfl,by go_num,by omega,HXE,HYE,Ww,HST,HBS⟩
    case measure=>simp [Go.RowKit.intOf];omega
  ·obtain rfl:m=0:=by omega
   have hRj:R=j:=HC.out.one ⟨by omega,HG.out,.inl (by omega)⟩
   refine aS (S:=fun X=>X.cell? ⟨q,0,none⟩=some (.int .i64 (0:Nat))) (by kernel_rfl) hcq fun ag=>?_
   obtain ⟨V,hV⟩:∃ V,wr.drew=V:=⟨_,rfl⟩;have Am:Hid (V.heap[q]?=some (.cells #[.int .i64 (0:Nat)] 3 (0,0))):=hid (by rw [← hV];exact HM.out);have Nc:Hid (Below q w V):=hid (by rw [← hV];exact rq HB.out);rw [hV] at ag ⊢;clear hV hcq hcA hcB HM HB;refine OP.t 0 rfl (.int .i64 (0:Nat)) (fun X hX=>by have c0:X.cell? ⟨q,0,none⟩=some (.int .i64 (0:Nat)):=hX;go_simp) ag ?_;simp only [OP.s];refine OP.t 1 rfl (.bool false) (fun X hX=>by go_simp) ag ?_;simp only [OP.s];refine OP.m 2 rfl (.bool false) ag ?_;simp only [OP.s];refine OP.n 3 rfl ag ?_;simp only [OP.s];refine OP.n 4 rfl ag ?_;simp only [OP.s];refine OP.n 5 rfl ag ?_;simp only [OP.s];refine OP.n 6 rfl ag ?_;simp only [OP.s];refine OP.n 7 rfl ag ?_;simp only [OP.s];refine OP.n 8 rfl ag ?_;simp only [OP.s];refine OP.n 9 rfl ag ?_;simp only [OP.s];refine OP.n 10 rfl ag ?_;simp only [OP.s];refine OP.n 11 rfl ag ?_;simp only [OP.s];refine OP.n 12 rfl ag ?_;simp only [OP.s];refine OP.n 13 rfl ag ?_;simp only [OP.s];refine OP.m 14 rfl (.bool false) ag ?_;simp only [OP.s];refine bL (by kernel_rfl) ?_ _;clear ag
   go_wp2_with fail
   go_ret
   refine ⟨by rw [hRj];rfl,?_,Nc.out⟩;rw [hRj,show left - j=0 by omega]
   exact Am.out
theorem SC {w:World} {v:Value} {l:List ByteArray} (h:Ew w v l):∀ g off n c,l≠[]→v=.slice (some ⟨g,off,none⟩) n c→g<w.heap.size:=by
 intro g off n c hl hv;obtain ⟨a,c',h1,h2⟩:=h;obtain ⟨g',off',h3,h4⟩:=h2.resolve_left hl;have hp:0<l.length:=List.length_pos_iff.2 hl;have h5:=bB w _ (h4 0 hp);rw [h1,h3] at hv
 cases hv
 exact h5
theorem LM (w:World) (TL TO:List ByteArray) (v v':Value) (hv:Ew w v TL) (hv':Ew w v' TO) (h1:TL.length≤1000000) (h2:TO.length≤1000000) :
  Calls Tryz.prog 34 #[v,v'] w fun e w'=>e=.returned (.tuple #[.int .i64 (rH TL TO:Nat),.int .i64 (rJ TL TO:Nat)])∧Below w.heap.size w w':=by
 have oh:∀ (fn:Fn) (first cap:Array Value) (w:World),(Instr.makeFunc fn first cap).run Tryz.prog w=.ok (.func fn first cap) w:=fun _ _ _ _=>rfl
 have l1:=SC hv;have l2:=SC hv';have hle:=(Dl TL TO).1;obtain ⟨w1,hw1,hq1,hr1,ho1,hb1,hz1⟩:=OH w (.cells #[v] 56) (.cells #[v'] 56) (.cells #[.int .i64 ((min TL.length TO.length:Nat):Int)] 3);have hA1:=(zf hq1).1;have hB1:=(zf hr1).1
 have c1:=FE (w.heap.size+1+1) w.heap.size (w.heap.size+1) w1 TL TO v v' (min TL.length TO.length) 0 0 1 (gH TL TO) ho1 hA1 hB1 (by omega) (by omega) (hv.later hb1) (hv'.later hb1) (fun g off n c e f=>by have:=l1 g off n c e f;omega) (fun g off n c e f=>by have:=l2 g off n c e f;omega)
  (fun j hj=>⟨j,j,by omega,by omega,by omega,by omega,by
   unfold gH
   rw [aC (by omega),aC (by omega)]
   simp⟩) (.inl rfl) (by omega) (by omega) (by omega)
 have c2:=fun (w2:World) (hq:w2.heap[w.heap.size+1+1]?=some (.cells #[.int .i64 ((min TL.length TO.length - rH TL TO:Nat):Int)] 3 (0,0))) (hb2:Below (w.heap.size+1+1) w1 w2) =>
  FE (w.heap.size+1+1) w.heap.size (w.heap.size+1) w2 TL TO v v' (min TL.length TO.length - rH TL TO) ((TL.length:Int) - 1) ((TO.length:Int) - 1) (-1) (gT TL TO) hq ((hb2.cell (p:=⟨w.heap.size,0,none⟩) (by show w.heap.size<_;omega)).trans hA1) ((hb2.cell (p:=⟨w.heap.size+1,0,none⟩) (by show w.heap.size+1<_;omega)).trans hB1) (by omega) (by omega)
   (hv.later (hb1.trans (hb2.mono (by omega)))) (hv'.later (hb1.trans (hb2.mono (by omega)))) (fun g off n c e f=>by have:=l1 g off n c e f;omega) (fun g off n c e f=>by have:=l2 g off n c e f;omega)
   (fun j hj=>⟨TL.length - 1 - j,TO.length - 1 - j,by omega,by omega,by omega,by omega,by
    unfold gT
    rw [aC (by omega),aC (by omega)]
    simp⟩) (.inr rfl) (by omega) (by omega) (by omega)
 have ht:cnt (gT TL TO) (min TL.length TO.length - rH TL TO) 0=rJ TL TO:=rfl;have hh:cnt (gH TL TO) (min TL.length TO.length) 0=rH TL TO:=rfl;rw [hh] at c1;rw [ht] at c2;obtain ⟨a,c,rfl,_⟩:=hv;obtain ⟨a',c',rfl,_⟩:=hv';obtain ⟨hd,hhd⟩:∃ x,rH TL TO=x:=⟨_,rfl⟩;obtain ⟨tl,htl⟩:∃ x,rJ TL TO=x:=⟨_,rfl⟩;rw [hhd] at c1 c2 ⊢;rw [htl] at c2 ⊢;obtain ⟨n,hn⟩:∃ n,TL.length=n:=⟨_,rfl⟩;obtain ⟨n',hn'⟩:∃ n,TO.length=n:=⟨_,rfl⟩;rw [hn,hn'] at hw1 c1 c2;rw [hn] at h1 hA1 ⊢;rw [hn'] at h2 hB1 ⊢
 have hmin:min (n:Int) (n':Int)=((min n n':Nat):Int):=by omega
 obtain ⟨m,hm⟩:∃ m,min n n'=m:=⟨_,rfl⟩;rw [hm] at hmin hw1 c1 c2;have HB1:=hid hb1;have HZ1:=hid hz1;have Ul:=hid c2;have HAB:=hid (And.intro hA1 hB1);clear c2 hq1 hr1 ho1 hb1 hz1 l1 l2 hle ht hh hhd htl hn hn' hm hA1 hB1
 go_enter Tryz.func34,Tryz.ntmps34
 go_wp2_with fail
 refine c1.mono ?_;rintro e w2 ⟨rfl,hq2,hb2⟩;have c2:=Ul.out w2 hq2 hb2;have hA2:=(hb2.cell (p:=⟨w.heap.size,0,none⟩) (by show w.heap.size<_;omega)).trans HAB.out.1;have hB2:=(hb2.cell (p:=⟨w.heap.size+1,0,none⟩) (by show w.heap.size+1<_;omega)).trans HAB.out.2;have HB2:=hid (HB1.out.trans (hb2.mono (by omega)));clear c1 hq2 hb2
 go_wp2_with fail
 refine c2.mono ?_;rintro e w3 ⟨rfl,hq3,hb3⟩;have HB3:=hid (HB2.out.trans (hb3.mono (by omega)));clear c2 hq3 hb3 hA2 hB2
 go_wp2_with fail
 go_ret2
 exact ⟨rfl,HB3.out⟩
end Ud
namespace Ud
open Go.RowKit
open Go.Lib hiding intOf
open U S Q T J
open K (gB pO Nn qd)
theorem VD {W:World} {b:Nat} {t:TypeId} {u0 u1 u2 u3 u4 u5 u6 u7 u8 u9:Value} (v0 v1 v2 v3 v4 v5 v6 v7 v8 v9:Value) (h:W.heap[b]?=some (.cells #[u0,u1,u2,u3,u4,u5,u6,u7,u8,u9] t (0,0))) :
  ∃ W',(((((((((W.setCell ⟨b,0,none⟩ v0).setCell ⟨b,1,none⟩ v1).setCell ⟨b,2,none⟩ v2).setCell ⟨b,3,none⟩ v3).setCell ⟨b,4,none⟩ v4).setCell ⟨b,5,none⟩ v5).setCell ⟨b,6,none⟩ v6).setCell ⟨b,7,none⟩ v7).setCell ⟨b,8,none⟩ v8).setCell ⟨b,9,none⟩ v9=W'∧W'.heap[b]?=some (.cells #[v0,v1,v2,v3,v4,v5,v6,v7,v8,v9] t (0,0))∧(∀ k,k≠b→W'.heap[k]?=W.heap[k]?)∧∀ B,B≤b→Below B W W':=by
 have b1:∀ B,B≤b→∀ (X:World) (j:Nat) (v:Value),Below B X (X.setCell ⟨b,j,none⟩ v):=fun B hB X j v=>⟨rfl,rfl,rfl,by simp,fun k hk=>ak _ _ _ _ (by show k≠b;omega)⟩
 have s0:(W.setCell ⟨b,0,none⟩ v0).heap[b]?=some (.cells #[v0,u1,u2,u3,u4,u5,u6,u7,u8,u9] t (0,0)):=az h v0;have s1:((W.setCell ⟨b,0,none⟩ v0).setCell ⟨b,1,none⟩ v1).heap[b]?=some (.cells #[v0,v1,u2,u3,u4,u5,u6,u7,u8,u9] t (0,0)):=az s0 v1;have s2:(((W.setCell ⟨b,0,none⟩ v0).setCell ⟨b,1,none⟩ v1).setCell ⟨b,2,none⟩ v2).heap[b]?=some (.cells #[v0,v1,v2,u3,u4,u5,u6,u7,u8,u9] t (0,0)):=az s1 v2;obtain ⟨X2,hX2⟩:∃ X,((W.setCell ⟨b,0,none⟩ v0).setCell ⟨b,1,none⟩ v1).setCell ⟨b,2,none⟩ v2=X:=⟨_,rfl⟩
 have o2:∀ k,k≠b→X2.heap[k]?=W.heap[k]?:=fun k hk=>by rw [← hX2];exact (ak _ _ _ _ hk).trans ((ak _ _ _ _ hk).trans (ak _ _ _ _ hk))
 have l2:∀ B,B≤b→Below B W X2:=fun B hB=>by rw [← hX2];exact ((b1 B hB _ _ _).trans (b1 B hB _ _ _)).trans (b1 B hB _ _ _)
 rw [hX2] at s2 ⊢;have s3:(X2.setCell ⟨b,3,none⟩ v3).heap[b]?=some (.cells #[v0,v1,v2,v3,u4,u5,u6,u7,u8,u9] t (0,0)):=az s2 v3;have s4:((X2.setCell ⟨b,3,none⟩ v3).setCell ⟨b,4,none⟩ v4).heap[b]?=some (.cells #[v0,v1,v2,v3,v4,u5,u6,u7,u8,u9] t (0,0)):=az s3 v4;have s5:(((X2.setCell ⟨b,3,none⟩ v3).setCell ⟨b,4,none⟩ v4).setCell ⟨b,5,none⟩ v5).heap[b]?=some (.cells #[v0,v1,v2,v3,v4,v5,u6,u7,u8,u9] t (0,0)):=az s4 v5;obtain ⟨X5,WL⟩:∃ X,((X2.setCell ⟨b,3,none⟩ v3).setCell ⟨b,4,none⟩ v4).setCell ⟨b,5,none⟩ v5=X:=⟨_,rfl⟩
 have o5:∀ k,k≠b→X5.heap[k]?=W.heap[k]?:=fun k hk=>by rw [← WL];exact ((ak _ _ _ _ hk).trans ((ak _ _ _ _ hk).trans (ak _ _ _ _ hk))).trans (o2 k hk)
 have l5:∀ B,B≤b→Below B W X5:=fun B hB=>by rw [← WL];exact (((l2 B hB).trans (b1 B hB _ _ _)).trans (b1 B hB _ _ _)).trans (b1 B hB _ _ _)
 rw [WL] at s5 ⊢;have s6:(X5.setCell ⟨b,6,none⟩ v6).heap[b]?=some (.cells #[v0,v1,v2,v3,v4,v5,v6,u7,u8,u9] t (0,0)):=az s5 v6;have s7:((X5.setCell ⟨b,6,none⟩ v6).setCell ⟨b,7,none⟩ v7).heap[b]?=some (.cells #[v0,v1,v2,v3,v4,v5,v6,v7,u8,u9] t (0,0)):=az s6 v7;have s8:(((X5.setCell ⟨b,6,none⟩ v6).setCell ⟨b,7,none⟩ v7).setCell ⟨b,8,none⟩ v8).heap[b]?=some (.cells #[v0,v1,v2,v3,v4,v5,v6,v7,v8,u9] t (0,0)):=az s7 v8;have s9:((((X5.setCell ⟨b,6,none⟩ v6).setCell ⟨b,7,none⟩ v7).setCell ⟨b,8,none⟩ v8).setCell ⟨b,9,none⟩ v9).heap[b]?=some (.cells #[v0,v1,v2,v3,v4,v5,v6,v7,v8,v9] t (0,0)):=az s8 v9
 exact ⟨_,rfl,s9,fun k hk=>(ak _ _ _ _ hk).trans ((ak _ _ _ _ hk).trans ((ak _ _ _ _ hk).trans ((ak _ _ _ _ hk).trans (o5 k hk)))),fun B hB=>((((l5 B hB).trans (b1 B hB _ _ _)).trans (b1 B hB _ _ _)).trans (b1 B hB _ _ _)).trans (b1 B hB _ _ _)⟩
theorem SE (w0 w:World) (D OL:List ku) (h m g cap cl:Nat) (v':Value) (hS:St w0.heap.size D h g cap w) (hm:h+m≤D.length) (hlen:D.length≤1000000) (hN:∀ d∈D,pO (sj d.p)) (hO:Bd w0.heap.size w0 OL v') (hmo:m≤OL.length) (zh:OL.length≤1000000)
  (heq:∀ i (hi:i<m),(OL[i]'(by omega)).p=(D[h+i]'(by omega)).p∧(OL[i]'(by omega)).a=(D[h+i]'(by omega)).a∧(OL[i]'(by omega)).r=(D[h+i]'(by omega)).r) (hb:Below w0.heap.size w0 w) :
  Calls Tryz.prog 35 #[.slice (some ⟨g,h*10,none⟩) m cl,v'] w fun e w'=>e=.returned (.tuple #[])∧St w0.heap.size D (h+m) g cap w'∧Below w0.heap.size w0 w'∧Ei g w w':=by
 have HS:=hid hS;have HN:=hid hN;have HO:=hid hO;have HE:=hid heq;have HB:=hid hb;obtain ⟨oa,oc,rfl,hoc,_⟩:=hO;obtain ⟨on,hon⟩:∃ n,OL.length=n:=⟨_,rfl⟩;have HON:=hid hon;rw [hon] at HO hmo zh hoc ⊢;clear hS hN heq hb hon
 go_enter Tryz.func35,Tryz.ntmps35
 go_wp2_with fail
 go_loopw [9] (fun iv wr=>∃ i:Nat,iv=.int .i64 i∧i≤m∧Hid (St w0.heap.size D (h+i) g cap wr)∧Hid (Below w0.heap.size w0 wr)∧Hid (Ei g w wr)) (fun iv _=>m - (Go.RowKit.intOf iv).toNat)
 case atStart=>exact ⟨0,rfl,aL _,HS,HB,hid (Ei.refl g w)⟩
 case round =>
  obtain ⟨i,rfl,hi,PX,FD,HOr⟩:=hrel;clear HS HB
  by_cases hlt:i<m
  ·have hj:h+i<D.length:=by omega
   have Q8:i<OL.length:=by rw [HON.out];omega
   obtain ⟨a9,c9',e9,_,hrow⟩:=HO.out.later FD.out;simp only [cZ] at e9;obtain ⟨rfl,_,rfl⟩:=e9;obtain ⟨g2,off,rfl,hg2,hat⟩:=hrow.resolve_left (fun h=>by rw [h] at Q8;exact bq _ Q8);obtain ⟨f,e,tx,k,t,pf,pe,ks,aa,cc,x,r,hK⟩:=Ba (hat i Q8);have hEi:=HE.out i hlt;rw [hK.eq] at hEi;have HEI:=hid (And.intro hEi.1.symm (And.intro hEi.2.1.symm hEi.2.2.symm));obtain ⟨y0,hy0⟩:∃ z,aU k=z:=⟨_,rfl⟩;obtain ⟨y1,hy1⟩:∃ z,aU t=z:=⟨_,rfl⟩;obtain ⟨z0,hz0⟩:∃ z,ks.length=z:=⟨_,rfl⟩;have HY:=hid (And.intro hy0 hy1);have hkk:=hK.kids;rw [hz0] at hkk;have HK:=hid hkk
   have dP:Hid (∀ X,Below wr.heap.size wr X→X.cell? ⟨g2,off+i*10,none⟩=some (.int .i64 f)∧X.cell? ⟨g2,off+i*10+1,none⟩=some (.int .i64 e)∧X.cell? ⟨g2,off+i*10+2,none⟩=some (.string tx)∧X.cell? ⟨g2,off+i*10+3,none⟩=some (.string y0)∧X.cell? ⟨g2,off+i*10+4,none⟩=some (.string y1)∧X.cell? ⟨g2,off+i*10+5,none⟩=some (.int .i64 pf)∧X.cell? ⟨g2,off+i*10+6,none⟩=some (.int .i64 pe)∧X.cell? ⟨g2,off+i*10+7,none⟩=some (.slice aa z0 cc)∧X.cell? ⟨g2,off+i*10+8,none⟩=some (.int .i64 x)∧X.cell? ⟨g2,off+i*10+9,none⟩=some (.int .i64 r)):=hid (fun X hX=>by
    have h:=hK.below hX;rw [← hy0,← hy1,← hz0]
    exact ⟨h.c0,h.c1,h.c2,h.c3,h.c4,h.c5,h.c6,h.c7,h.c8,h.c9⟩)
   have hgw:=PX.out.lt
   have QU:i<on:=by omega
   clear hat hK hrow hEi hy0 hy1 hz0 Q8 hkk
   go_upto_region 3 with fail
   refine aS (S:=fun X=>Below wr.heap.size wr X) (by kernel_rfl) (aj wr.heap.size wr).drew fun ag=>?_
   have yO:=hid (PX.out.later (aj wr.heap.size wr).drew);have HV0:=hid (show wr.drew.heap.size=wr.heap.size from rfl);have Nc:=hid (rq FD.out);obtain ⟨V,hV⟩:∃ V,wr.drew=V:=⟨_,rfl⟩;rw [hV] at ag yO HV0 Nc ⊢;clear hV;have HV:=hid ag;refine OP.m 0 rfl (.slice (some ⟨g,h*10,none⟩) m cl) ag ?_;simp only [OP.s];refine OP.m 1 rfl (.int .i64 i) ag ?_;simp only [OP.s];refine OP.t 2 rfl (.pointer (some ⟨g,h*10+i*10,none⟩)) (fun X hX=>zg 12 13 g (h*10) m i cl X rfl rfl rfl hlt) ag ?_;simp only [OP.s];refine OP.m 3 rfl (.slice (some ⟨g2,off,none⟩) on oc) ag ?_;simp only [OP.s];refine OP.m 4 rfl (.int .i64 i) ag ?_;simp only [OP.s];refine OP.t 5 rfl (.pointer (some ⟨g2,off+i*10,none⟩)) (fun X hX=>zg 15 16 g2 off on i oc X rfl rfl rfl QU) ag ?_;simp only [OP.s];refine OP.t 6 rfl (.agg #[.int .i64 f,.int .i64 e,.string tx,.string y0,.string y1,.int .i64 pf,.int .i64 pe,.slice aa z0 cc,.int .i64 x,.int .i64 r]) (fun X hX=>by obtain ⟨k0,k1,k2,k3,k4,k5,k6,k7,k8,k9⟩:=dP.out X hX;go_simp) ag ?_;simp only [OP.s]
   refine OP.r 7 rfl fun K hK=>?_
   go_simp
   obtain ⟨X1,hX1,f1,b1,z1⟩:=ic V (.cells #[.int .i64 0,.int .i64 0,.string ⟨#[]⟩,.string ⟨#[]⟩,.string ⟨#[]⟩,.int .i64 0,.int .i64 0,.slice none 0 0,.int .i64 0,.int .i64 0] 52);rw [hX1];rw [HV0.out] at f1 b1 z1 ⊢;have Gt:=hid (yO.out.later (by rw [HV0.out];exact b1));have HB1:=hid (Nc.out.trans (b1.mono FD.out.size));have hb1:=HV.out.trans b1;clear hX1
   refine hK.out _ _ hb1 fun ag=>?_
   try simp only [OP.s]
   clear hK K;refine OP.m 8 rfl (.pointer (some ⟨g,h*10+i*10,none⟩)) ag ?_;simp only [OP.s]
   refine OP.r 9 rfl fun K hK=>?_
   obtain ⟨⟨k0,k1,k2,k3,k4,k5,k6,k7,k8,k9⟩,kf⟩:=nN f1;obtain ⟨X2,hX2,f2,o2,b2⟩:=VD (.int .i64 f) (.int .i64 e) (.string tx) (.string y0) (.string y1) (.int .i64 pf) (.int .i64 pe) (.slice aa z0 cc) (.int .i64 x) (.int .i64 r) f1
   go_simp
   have hb2:Below wr.heap.size wr X2:=hb1.trans (b2 _ (ae _));have HS2:=hid (PX.out.later hb2);have HB2:=hid (FD.out.trans (hb2.mono FD.out.size));have uo:=hid (HOr.out.below hb2);clear k0 k1 k2 k3 k4 k5 k6 k7 k8 k9 kf hX2 f1 b1 z1 o2 b2 Gt HB1
   refine hK.out _ _ hb2 fun ag=>?_
   try simp only [OP.s]
   clear hK K;refine bL (by kernel_rfl) ?_ _;obtain ⟨B6,Ko⟩:∃ b,wr.heap.size=b:=⟨_,rfl⟩
   have hgB:g≠B6:=by omega
   have Kr:=hid (aT.later (R':=fun _=>True) (fun b hb _=>(FD.out.trans (hb2.mono FD.out.size)).block b hb) (fun _ _=>trivial) _ _ (aT.later (W':=w0) (R':=fun k=>k<w0.heap.size) (fun b hb _=>(FD.out.block b hb).symm) (fun _ h=>h) _ _ HK.out));rw [Ko] at f2 ⊢;clear ag hb2 hb1 HV yO HV0 Nc dP PX FD hgw Ko
   go_upto_region 4 with fail
   refine aS (S:=fun X=>X.heap[B6]?=some (.cells #[.int .i64 f,.int .i64 e,.string tx,.string y0,.string y1,.int .i64 pf,.int .i64 pe,.slice aa z0 cc,.int .i64 x,.int .i64 r] 52 (0,0))) (by kernel_rfl) f2 fun ag=>?_
   have Km:=hid (HS2.out.later (aj X2.heap.size X2).drew);have HB3:=hid (rq HB2.out);have nM:=hid (uo.out.below (aj X2.heap.size X2).drew);have Ui:=hid (aT.later (R:=fun _=>True) (R':=fun _=>True) (W:=X2) (W':=X2.drew) (fun _ _ _=>rfl) (fun _ h=>h) _ _ Kr.out);obtain ⟨V,hV⟩:∃ V,X2.drew=V:=⟨_,rfl⟩;rw [hV] at ag Km HB3 Ui nM ⊢;clear hV f2 HS2 HB2 Kr uo;have hH:=hid ag;refine OP.m 0 rfl (.pointer (some ⟨g,h*10+i*10,none⟩)) ag ?_;simp only [OP.s];refine OP.m 1 rfl (.pointer (some ⟨g,h*10+i*10,none⟩)) ag ?_;simp only [OP.s];refine OP.m 2 rfl (.pointer (some ⟨g,h*10+i*10,none⟩)) ag ?_;simp only [OP.s];refine OP.m 3 rfl (.pointer (some ⟨B6,3,none⟩)) ag ?_;simp only [OP.s];refine OP.t 4 rfl (.agg #[.string y0,.string y1,.int .i64 pf,.int .i64 pe,.slice aa z0 cc]) (fun X hX=>by obtain ⟨⟨k0,k1,k2,k3,k4,k5,k6,k7,k8,k9⟩,_⟩:=nN hX;go_simp) ag ?_;simp only [OP.s];refine OP.m 5 rfl (.pointer (some ⟨B6,8,none⟩)) ag ?_;simp only [OP.s];refine OP.t 6 rfl (.int .i64 x) (fun X hX=>by obtain ⟨⟨k0,k1,k2,k3,k4,k5,k6,k7,k8,k9⟩,_⟩:=nN hX;go_simp) ag ?_;simp only [OP.s];refine OP.m 7 rfl (.pointer (some ⟨B6,9,none⟩)) ag ?_;simp only [OP.s];refine OP.t 8 rfl (.int .i64 r) (fun X hX=>by obtain ⟨⟨k0,k1,k2,k3,k4,k5,k6,k7,k8,k9⟩,_⟩:=nN hX;go_simp) ag ?_;simp only [OP.s];refine OP.t 9 rfl (.pointer (some ⟨g,h*10+i*10,none⟩)) (fun X hX=>by go_simp) ag ?_;simp only [OP.s];refine OP.m 10 rfl (.pointer (some ⟨g,h*10+i*10+3,none⟩)) ag ?_;simp only [OP.s]
   refine OP.r 11 rfl fun K hK=>?_
   obtain ⟨cur,h1,h2,⟨c0,c1,c2,c3,c4,c5,c6,c7,c8,c9⟩,cf⟩:=Km.out.cells hj (o:=h*10+i*10) (by omega);obtain ⟨W1,ajn,hW1,e2,e3,e4,e5,e6,e7⟩:=wT (o:=h*10+i*10+3) (.string y0) (.string y1) (.int .i64 pf) (.int .i64 pe) (.slice aa z0 cc) h1 (by omega);obtain ⟨W',wZ,Ep,hb4,WV⟩:=Km.out.done hj (o:=h*10+i*10) (by omega) HN.out (x:=x) (r:=r) HEI.out Ui.out HY.out.1 HY.out.2;rw [hW1] at wZ;have d8:W1.cell? ⟨g,h*10+i*10+8,none⟩=some (.int .i64 0):=(gF e2 _).trans ((e5 _ (by omega)).trans ((gF h1 _).symm.trans c8));have d9:W1.cell? ⟨g,h*10+i*10+9,none⟩=some (.int .i64 0):=(gF e2 _).trans ((e5 _ (by omega)).trans ((gF h1 _).symm.trans c9));have df:=pg e2;have XY:=hid Ep;have uR:=hid (HB3.out.trans hb4);have xn:=hid (nM.out.step hb4 WV);have jD:=(e6 B6 (Ne.symm hgB)).trans hH.out;have Bz:(W1.setCell ⟨g,h*10+i*10+8,none⟩ (.int .i64 x)).heap[B6]?=some (.cells #[.int .i64 f,.int .i64 e,.string tx,.string y0,.string y1,.int .i64 pf,.int .i64 pe,.slice aa z0 cc,.int .i64 x,.int .i64 r] 52 (0,0)):=(ak _ _ _ _ (by show B6≠g;exact Ne.symm hgB)).trans jD
   have PV:W'.heap[B6]?=some (.cells #[.int .i64 f,.int .i64 e,.string tx,.string y0,.string y1,.int .i64 pf,.int .i64 pe,.slice aa z0 cc,.int .i64 x,.int .i64 r] 52 (0,0)):=by
    rw [← wZ]
    exact (ak _ _ _ _ (by show B6≠g;exact Ne.symm hgB)).trans Bz
   clear e3 e4 e5 e6 e7 Ep hb4 WV e2 h1 h2 c0 c1 c2 c8 c9
   go_simp
   clear c3 c4 c5 c6 c7 cf hW1
   refine hK.out _ _ jD fun ag=>?_
   try simp only [OP.s]
   clear hK K;refine OP.t 12 rfl (.pointer (some ⟨g,h*10+i*10,none⟩)) (fun X hX=>by go_simp) ag ?_;simp only [OP.s];refine OP.m 13 rfl (.pointer (some ⟨g,h*10+i*10+8,none⟩)) ag ?_;simp only [OP.s]
   refine OP.r 14 rfl fun K hK=>?_
   have dd9:(W1.setCell ⟨g,h*10+i*10+8,none⟩ (.int .i64 x)).cell? ⟨g,h*10+i*10+9,none⟩=some (.int .i64 0):=by go_simp
   have ddf:(W1.setCell ⟨g,h*10+i*10+8,none⟩ (.int .i64 x)).frozen? ⟨g,h*10+i*10+9,none⟩=false:=by have:=df (h*10+i*10+9);go_simp
   have df8:=df (h*10+i*10+8)
   go_simp
   refine hK.out _ _ Bz fun ag=>?_
   try simp only [OP.s]
   clear hK K;refine OP.t 15 rfl (.pointer (some ⟨g,h*10+i*10,none⟩)) (fun X hX=>by go_simp) ag ?_;simp only [OP.s];refine OP.m 16 rfl (.pointer (some ⟨g,h*10+i*10+9,none⟩)) ag ?_;simp only [OP.s]
   refine OP.r 17 rfl fun K hK=>?_
   go_simp
   refine hK.out _ _ PV fun ag=>?_
   try simp only [OP.s]
   clear hK K;refine bL (by kernel_rfl) ?_ _;clear ag jD Bz PV dd9 ddf df8 d8 d9 df wZ
   go_wp2_with fail
   go_roundw
   case rel=>exact ⟨_,_,_,_,⟨i+1,rfl,by omega,XY⟩,rfl,rfl,rfl,by go_num⟩
   case measure=>simp [Go.RowKit.intOf];omega
  ·obtain rfl:i=m:=by omega
   go_wp2_with fail
   exact fZ (aI rfl _ _ _) rfl ⟨rfl,PX.out,FD.out,HOr.out⟩
end Ud
namespace J
open Go.RowKit
open Go.Lib hiding intOf
open U S T
mutual
theorem zi {W:World} {R:Nat→Prop}:∀ (p:Pt) (lv:Value),aT W R p lv→aT W (fun k=>R k∧k<W.heap.size) p lv
 | .mk k t f e ks,lv,h=>by
  obtain ⟨a,cap,h1,h0,h2⟩:=h;refine ⟨a,cap,h1,h0,?_⟩
  rcases h2 with h2|⟨g,off,xs,h3,h4,h5,h6⟩
  ·exact .inl h2
  ·cases ks with
   | nil=>exact .inl rfl
   | cons p r =>
    have hl:g<W.heap.size:=by
     obtain ⟨Cu,rest,rfl,_,_⟩:=h6
     cases p
     exact bB W _ (h5 0 _ rfl)
    exact .inr ⟨g,off,xs,h3,⟨h4,hl⟩,h5,Dz _ _ h6⟩
theorem Dz {W:World} {R:Nat→Prop}:∀ (l:List Pt) (xs:List Value),aO W R l xs→aO W (fun k=>R k∧k<W.heap.size) l xs
 | [],_,h=>h
 | p :: r,xs,h=>by
  obtain ⟨lv,rest,h1,h2,h3⟩:=h
  exact ⟨lv,rest,h1,zi p lv h2,Dz r rest h3⟩
end
theorem VE {W:World} {R:Nat→Prop} {l:List Pt} {xs:List Value} (h:aO W R l xs):aO W (fun k=>R k∧k<W.heap.size) l xs:=Dz l xs h
structure Acc (H:Nat) (b:Int) (ks:List Pt) (c0 c1 c2 c3:Value) (i:Nat) (vO:Value) (X:World):Prop where
 o:X.heap[H+1+1]?=some (.cells #[c0,c1,c2,c3,vO] 49 (0,0))
 q:X.heap[H+1]?=some (.cells #[.string ⟨#[]⟩,.string ⟨#[]⟩,.int .i64 0,.int .i64 0,.slice none 0 0] 49 (0,0))
 row:∃ ys:List Value,X.ownsRow (H+3) 49 5 vO i ys∧aO X (fun k=>H+3≤k∧vO.ownBlock≠some k) (kY b (ks.take i)) ys
theorem Acc.below {H i:Nat} {b:Int} {ks:List Pt} {c0 c1 c2 c3 vO:Value} {X X':World} (h:Acc H b ks c0 c1 c2 c3 i vO X) (hb:Below X.heap.size X X'):Acc H b ks c0 c1 c2 c3 i vO X':=by
 obtain ⟨h1,h2,ys,h3,h4⟩:=h
 exact ⟨(hb.block _ (af.1 h1).1).trans h1,(hb.block _ (af.1 h2).1).trans h2,ys,aV h3 hb,si h4 hb⟩
theorem Acc.add {H i:Nat} {b:Int} {ks:List Pt} {c0 c1 c2 c3 vO:Value} {X w6:World} {g5 c5:Nat} {ys:List Value} {p:Pt} {lv:Value} (hi:i<ks.length) (hp:lV b ks[i]=p) (h1:X.heap[H+1+1]?=some (.cells #[c0,c1,c2,c3,vO] 49 (0,0)))
  (h2:X.heap[H+1]?=some (.cells #[.string ⟨#[]⟩,.string ⟨#[]⟩,.int .i64 0,.int .i64 0,.slice none 0 0] 49 (0,0))) (h3:X.ownsRow (H+3) 49 5 vO i ys) (h4:aO X (fun k=>H+3≤k∧vO.ownBlock≠some k) (kY b (ks.take i)) ys)
  (hk:aT X (fun k=>H+3≤k∧vO.ownBlock≠some k∧k<X.heap.size) p lv)
  (bY:w6.ownsRow (H+3) 49 5 (.slice (some ⟨g5,0,none⟩) (i+1) c5) (i+1) (ys++five p lv)) (aP:X.grownBy w6 vO.ownBlock) (hat:vO.ownBlock=some g5∨g5=X.heap.size) :
  w6.cell? ⟨H+1+1,4,none⟩=some vO∧w6.frozen? ⟨H+1+1,4,none⟩=false∧Acc H b ks c0 c1 c2 c3 (i+1) (.slice (some ⟨g5,0,none⟩) (i+1) c5) (w6.setCell ⟨H+1+1,4,none⟩ (.slice (some ⟨g5,0,none⟩) (i+1) c5))∧Below (H+1) X (w6.setCell ⟨H+1+1,4,none⟩ (.slice (some ⟨g5,0,none⟩) (i+1) c5)):=by
 have hO:∀ k,k<H+3→vO.ownBlock≠some k:=fun k hk e=>by have:=(h3.lt k e).1;omega
 have l1:=(af.1 h1).1;have l2:=(af.1 h2).1;have b1:=(aP.block _ l1 (fun e=>hO _ (by omega) e.symm)).trans h1;have b2:=(aP.block _ l2 (fun e=>hO _ (by omega) e.symm)).trans h2
 have hset:∀ k,k≠H+1+1→(w6.setCell ⟨H+1+1,4,none⟩ (.slice (some ⟨g5,0,none⟩) (i+1) c5)).heap[k]?=w6.heap[k]?:=fun k hk=>ak _ _ _ _ hk
 have hg5:H+3≤g5:=(bY.lt g5 rfl).1
 refine ⟨by simp [World.cell?,b1],by simp [World.frozen?,b1],⟨az b1 _,(hset _ (by omega)).trans b2,ys++five p lv,?_,?_⟩,?_⟩
 ·refine ⟨bY.1,?_⟩
  rcases bY.2 with h|⟨g,cap,cur,hv,h5,h6,h7⟩
  ·exact .inl h
  ·exact .inr ⟨g,cap,cur,hv,h5,(hset g (by omega)).trans h6,h7⟩
 ·rw [o8 b hi,hp]
  have keep:∀ k,(H+3≤k∧vO.ownBlock≠some k)→k<X.heap.size→(w6.setCell ⟨H+1+1,4,none⟩ (.slice (some ⟨g5,0,none⟩) (i+1) c5)).heap[k]?=X.heap[k]?:=fun k hk hl=>(hset k (by omega)).trans (aP.block k hl (fun e=>hk.2 e.symm))
  have rr:∀ k,(H+3≤k∧vO.ownBlock≠some k)→k<X.heap.size→(H+3≤k∧(Value.slice (some ⟨g5,0,none⟩) (i+1) c5).ownBlock≠some k):=fun k hk hl=>⟨hk.1,fun e=>by
   have e:g5=k:=by simpa [Value.ownBlock] using e
   rcases hat with h|h
   ·exact hk.2 (by rw [← e];exact h)
   ·omega⟩
  have ltL:∀ {l:List Pt} {zs:List Value},aO X (fun k=>H+3≤k∧vO.ownBlock≠some k) l zs→aO X (fun k=>(H+3≤k∧vO.ownBlock≠some k)∧k<X.heap.size) l zs:=fun h=>VE h
  refine aO.snoc (aO.later (fun k hk hl=>keep k hk.1 hl) (fun k hk=>rr k hk.1 hk.2) _ _ (ltL h4)) (aT.later (fun k hk hl=>keep k ⟨hk.1,hk.2.1⟩ hl) (fun k hk=>rr k ⟨hk.1,hk.2.1⟩ hk.2.2) _ _ hk)
 ·exact ⟨aP.os,aP.tape,aP.output,by simpa using aP.size,fun k hk=>(hset k (by omega)).trans (aP.block k (by omega) (fun e=>hO k (by omega) e.symm))⟩
end J
namespace Ud
open Go.RowKit
open Go.Lib hiding intOf
open U S Q T J
open K (gB pO Nn qd)
theorem DC (a:Option Addr) (c:Nat) (v':Value) (w:World):Calls Tryz.prog 35 #[.slice a 0 c,v'] w fun e w'=>e=.returned (.tuple #[])∧w=w':=by
 go_enter Tryz.func35,Tryz.ntmps35
 go_wp2_with fail
 go_loopw [9] (fun iv wr=>iv=.int .i64 0∧wr=w) (fun _ _=>0)
 case atStart=>exact ⟨rfl,rfl⟩
 case round =>
  obtain ⟨rfl,rfl⟩:=hrel
  go_wp2_with fail
  exact fZ (aI rfl _ _ _) rfl ⟨rfl,rfl⟩
theorem vU (a:Option Addr) (c:Nat) (w:World):Calls Tryz.prog 36 #[.slice a 0 c] w fun e w'=>e=.returned (.tuple #[])∧w=w':=by
 go_enter Tryz.func36,Tryz.ntmps36
 go_wp2_with fail
 go_loopw [6] (fun iv wr=>iv=.int .i64 0∧wr=w) (fun _ _=>0)
 case atStart=>exact ⟨rfl,rfl⟩
 case round =>
  obtain ⟨rfl,rfl⟩:=hrel
  go_wp2_with fail
  exact fZ (aI rfl _ _ _) rfl ⟨rfl,rfl⟩
def Seg (g h m:Nat) (v:Value):Prop:=∃ a c,v=.slice a m c∧(m=0∨a=some ⟨g,h*10,none⟩)
theorem JS (w0 w:World) (D OL:List ku) (h m g cap:Nat) (v v':Value) (hv:Seg g h m v) (hS:St w0.heap.size D h g cap w) (hm:h+m≤D.length) (hlen:D.length≤1000000) (hN:∀ d∈D,pO (sj d.p)) (hO:m=0∨Bd w0.heap.size w0 OL v') (hmo:m≤OL.length) (zh:OL.length≤1000000)
  (heq:∀ i (hi:i<m),(OL[i]'(by omega)).p=(D[h+i]'(by omega)).p∧(OL[i]'(by omega)).a=(D[h+i]'(by omega)).a∧(OL[i]'(by omega)).r=(D[h+i]'(by omega)).r) (hb:Below w0.heap.size w0 w) :
  Calls Tryz.prog 35 #[v,v'] w fun e w'=>e=.returned (.tuple #[])∧St w0.heap.size D (h+m) g cap w'∧Below w0.heap.size w0 w'∧Ei g w w':=by
 obtain ⟨a,c,rfl,ha⟩:=hv
 rcases eQ m with h0|h0
 ·subst h0
  refine (DC a c v' w).mono ?_;rintro e w' ⟨rfl,rfl⟩
  exact ⟨rfl,hS,hb,Ei.refl g w⟩
 ·obtain rfl:=ha.resolve_left (by omega)
  exact SE w0 w D OL h m g cap c v' hS hm hlen hN (hO.resolve_left (by omega)) hmo zh heq hb
theorem SF (w0 w:World) (D:List ku) (h m g cap:Nat) (v:Value) (hv:Seg g h m v) (hS:St w0.heap.size D h g cap w) (hm:h+m≤D.length) (hlen:D.length≤1000000) (hN:∀ d∈D,pO (sj d.p)) (hD:∀ d∈D,declT d.tx=(d.p,d.a,d.r)∧d.tx.size≤600)
  (hT:qI w0) (hG:qd w0) (hb:Below w0.heap.size w0 w) :
  Calls Tryz.prog 36 #[v] w fun e w'=>e=.returned (.tuple #[])∧St w0.heap.size D (h+m) g cap w'∧Below w0.heap.size w0 w'∧Ei g w w':=by
 obtain ⟨a,c,rfl,ha⟩:=hv
 rcases eQ m with h0|h0
 ·subst h0
  refine (vU a c w).mono ?_;rintro e w' ⟨rfl,rfl⟩
  exact ⟨rfl,hS,hb,Ei.refl g w⟩
 ·obtain rfl:=ha.resolve_left (by omega)
  exact Dy w0 w D h m g cap c hS hm hlen hN hD hT hG hb
theorem SG (W:World):(sizeOf (Tryz.prog.elem 56)).run Tryz.prog W=.ok 10 W:=by
 rw [show Tryz.prog.elem 56=52 by kernel_rfl];obtain ⟨i0,hi0,_,hz1,_⟩:=fF SB;rw [run_sizeOf (w:=W) hi0]
 have:Tryz.prog.cellsOf 52=10:=by kernel_rfl
 rw [this]
theorem afk (a:Option Addr) (n c i:Nat) (hi:i≤c):∀ W,(Instr.slice 56 (.slice a n c) none (some (.int .i64 i)) none).run Tryz.prog W=.ok (.slice (if c=0 then a else a.map (·.add (0*10))) i c) W:=fun W=>by
 rw [run_slice_h (P:=Tryz.prog) (w:=W) 56 a n c Tryz.underlying56 .i64 i (by omega) (by omega),SG]
 simp [Result.andThen,sliced]
theorem WW (a:Option Addr) (n c i:Nat) (hi:i≤n):∀ W,(Instr.slice 56 (.slice a n c) (some (.int .i64 i)) none none).run Tryz.prog W=.ok (.slice (if c=i then a else a.map (·.add (i*10))) (n - i) (c - i)) W:=fun W=>by
 rw [run_slice_l (P:=Tryz.prog) (w:=W) 56 a n c Tryz.underlying56 .i64 i (by omega) (by omega),SG]
 simp [Result.andThen,sliced]
theorem abQ (a:Option Addr) (n c i j:Nat) (hi:i≤j) (hj:j≤c):∀ W,(Instr.slice 56 (.slice a n c) (some (.int .i64 i)) (some (.int .i64 j)) none).run Tryz.prog W=.ok (.slice (if c=i then a else a.map (·.add (i*10))) (j - i) (c - i)) W:=fun W=>by
 rw [run_slice_lh (P:=Tryz.prog) (w:=W) 56 a n c Tryz.underlying56 .i64 .i64 i j (by omega) (by omega) (by omega),SG]
 simp [Result.andThen,sliced]
theorem abR {W:World} {B n c g:Nat} {D:List ku} (h:W.ownsRow B 52 10 (.slice (some ⟨g,0,none⟩) n c) n (mY D)) (hn:D.length=n):St B D 0 g c W:=by
 have hcell:=fun j hj=>h.cellAt j hj
 rcases h.2 with ⟨h',_⟩|⟨g',cap',cur,h',hB,hg,hnc,_,hsz,_⟩
 ·simp at h'
 ·simp only [cZ,bW,Addr.mk.injEq,and_true,true_and] at h'
  obtain ⟨rfl,rfl⟩:=h';refine ⟨hB,cur,hg,hsz,by omega,fun i _ h0=>absurd h0 (bq _),fun i hi _ q u hq=>?_⟩;have tK:=(aN.1 hq).1;rw [gJ] at tK;rw [← gF hg,hcell _ (by omega),JQ D i q hi tK]
  exact hq
theorem OT {H:Nat} {D:List ku} {g cap:Nat} {W:World} (h:St H D D.length g cap W):jc H (fun _=>True) W D (.slice (some ⟨g,0,none⟩) D.length cap):=by
 have hl:=h.lt;obtain ⟨ge,cur,h1,h2,h3,h4,_⟩:=h;refine ⟨_,_,rfl,h3,.inr ⟨g,0,rfl,ge,hl,fun i hi=>?_⟩⟩;obtain ⟨lv,e1,e2⟩:=h4 i hi hi
 exact ⟨lv,fun q u hq=>by rw [bz,gF h1];exact e1 q u hq,e2⟩
theorem YS {w:World} {l:List ku} {v:Value} (h:jc 0 (fun _=>True) w l v):Bd w.heap.size w l v:=by
 obtain ⟨a,c,h1,h2,h3⟩:=h;refine ⟨a,c,h1,h2,h3.imp id ?_⟩;rintro ⟨g,off,e1,_,e3,e4⟩;refine ⟨g,off,e1,e3,fun i hi=>?_⟩;obtain ⟨lv,k1,k2⟩:=e4 i hi
 exact ⟨lv,k1,aT.later (fun _ _ _=>rfl) (fun k hk=>hk.2) _ _ (zi _ _ k2)⟩
theorem SH {H:Nat} {w:World} {l:List ku} {a:Option Addr} {n c i:Nat} (h:Bd H w l (.slice a n c)) (hi:i<l.length):Bd H w (l.drop i) (.slice (if c=i then a else a.map (·.add (i*10))) (n - i) (c - i)):=by
 obtain ⟨a',c',h1,h2,h3⟩:=h;simp only [cZ] at h1;obtain ⟨rfl,rfl,rfl⟩:=h1;obtain ⟨g,off,rfl,e2,e3⟩:=h3.resolve_left (fun h=>by rw [h] at hi;exact bq _ hi);rw [ai (by omega)];refine ⟨_,_,by rw [bC],by rw [bC];omega,.inr ⟨g,off+i*10,by simp [Addr.add_lit],e2,fun j hj=>?_⟩⟩;rw [bC] at hj;have:=e3 (i+j) (by omega);rw [List.getElem_drop,show off+i*10+j*10=off+(i+j)*10 by omega]
 exact this
def PY (D:List ku):Prop:=∀ d∈D,declT d.tx=(d.p,d.a,d.r)∧d.tx.size≤600
theorem pE (s:ByteArray) (hs:s.size≤600):PY (decls s):=by
 intro d hd
 unfold decls at hd
 obtain ⟨q,_,rfl⟩:=List.mem_map.1 hd;refine ⟨rfl,?_⟩
 show (s.extract q.f q.e).size≤600
 rw [ByteArray.size_extract]
 omega
theorem SI {D:List ku} (h:PY D):∀ d∈D,pO (sj d.p):=fun d hd=>by
 have:=Vt d.tx;rw [(h d hd).1] at this
 exact this
theorem nO (s:ByteArray):(decls s).length≤s.size+1:=by
 have h1:=OE s;have h2:=o6 s.toList;rw [dR] at h2
 omega
theorem OU {D OL:List ku} (hD:PY D) (hO:PY OL) (i:Nat) (hi:i<rH (nU D) (nU OL)) (h1:i<OL.length) (h2:0+i<D.length):OL[i].p=D[0+i].p∧OL[i].a=D[0+i].a∧OL[i].r=D[0+i].r:=by
 have h:=(Dl (nU D) (nU OL)).2.1 i hi
 unfold gH nU at h
 simp only [bz] at h2 ⊢;rw [dL,dL,aC h1,aC h2,decide_eq_true_iff] at h
 have h3:D[i].tx=OL[i].tx:=by simpa using h
 have h4:=(hD _ (bF h2)).1;rw [h3,(hO _ (bF h1)).1] at h4
 exact ⟨congrArg Prod.fst h4,congrArg (fun z=>z.2.1) h4,congrArg (fun z=>z.2.2) h4⟩
theorem OV {D OL:List ku} (hD:PY D) (hO:PY OL) (i n k:Nat) (hi:i<rJ (nU D) (nU OL)) (hn:n=D.length - rJ (nU D) (nU OL)) (hk:k=OL.length - rJ (nU D) (nU OL)) (h1:i<(OL.drop k).length) (h2:n+i<D.length):(OL.drop k)[i].p=D[n+i].p∧(OL.drop k)[i].a=D[n+i].a∧(OL.drop k)[i].r=D[n+i].r:=by
 have hle:=BZ (nU D) (nU OL);have ht:=(JE (nU D) (nU OL)).2.1 (rJ (nU D) (nU OL) - 1 - i) (by omega);rw [kI,kI] at hle;rw [bC] at h1
 have e1:D.length - 1 - (rJ (nU D) (nU OL) - 1 - i)=n+i:=by omega
 have e2:OL.length - 1 - (rJ (nU D) (nU OL) - 1 - i)=k+i:=by omega
 have h1':k+i<OL.length:=by omega
 unfold gT at ht
 rw [kI,kI,e1,e2] at ht
 unfold nU at ht
 rw [dL,dL,aC h1',aC h2,decide_eq_true_iff] at ht;rw [List.getElem_drop]
 have h3:D[n+i].tx=OL[k+i].tx:=by simpa using ht
 have h4:=(hD _ (bF h2)).1;rw [h3,(hO _ (bF h1')).1] at h4
 exact ⟨congrArg Prod.fst h4,congrArg (fun z=>z.2.1) h4,congrArg (fun z=>z.2.2) h4⟩
def oH (d:Nat):Value:=.pointer (some ⟨d,0,none⟩)
structure Un (B:Nat) (W:World) (d:Nat) (s:ByteArray) (k:Nat):Prop where
 ge:B≤d
 row:∃ v,W.heap[d]?=some (.cells #[v,.string s,.int .i64 k] 58 (0,0))∧jc 0 (fun _=>True) W (decls s) v
theorem Un.later {B:Nat} {W W':World} {d:Nat} {s:ByteArray} {k:Nat} (h:Un B W d s k) (hb:Below W.heap.size W W'):Un B W' d s k:=by
 obtain ⟨ge,v,h1,h2⟩:=h
 exact ⟨ge,v,(hb.block _ (af.1 h1).1).trans h1,h2.later hb⟩
theorem jH {W:World} {b:Nat} {v0 v1 v2:Value} {t:TypeId} (h:W.heap[b]?=some (.cells #[v0,v1,v2] t (0,0))) :
  (W.cell? ⟨b,0,none⟩=some v0∧W.cell? ⟨b,1,none⟩=some v1∧W.cell? ⟨b,2,none⟩=some v2)∧∀ j,W.frozen? ⟨b,j,none⟩=false :=
 ⟨⟨by simp [World.cell?,h],by simp [World.cell?,h],by simp [World.cell?,h]⟩,fun j=>by simp [World.frozen?,h]⟩
theorem OW {W:World} {b:Nat} {v0 v1 v2:Value} {t:TypeId} (v:Value) (h:W.heap[b]?=some (.cells #[v0,v1,v2] t (0,0))) :
  ∃ W',W.setCell ⟨b,2,none⟩ v=W'∧W'.heap[b]?=some (.cells #[v0,v1,v] t (0,0))∧(∀ k,k≠b→W'.heap[k]?=W.heap[k]?)∧∀ B,B≤b→Below B W W' :=
 ⟨_,rfl,az h v,fun k hk=>ak _ _ _ _ hk,fun B hB=>⟨rfl,rfl,rfl,by simp,fun k hk=>ak _ _ _ _ (by show k≠b;omega)⟩⟩
structure Fill (w0:World) (D OL:List ku) (v v' v1 v2 v3 v4:Value) (hd tl rs n on:Nat):Prop where
 s1:∀ W,(Instr.slice 56 v none (some (.int .i64 hd)) none).run Tryz.prog W=.ok v1 W
 s2:∀ W,(Instr.slice 56 v (some (.int .i64 hd)) (some (.int .i64 rs)) none).run Tryz.prog W=.ok v2 W
 s3:∀ W,(Instr.slice 56 v (some (.int .i64 rs)) none none).run Tryz.prog W=.ok v3 W
 s4:∀ W,(Instr.slice 56 v' (some (.int .i64 ((on - tl:Nat):Int))) none none).run Tryz.prog W=.ok v4 W
 fill:∀ (W:World) (d:Nat),(D=[]∨∃ g c,v=.slice (some ⟨g,0,none⟩) n c∧St w0.heap.size D 0 g c W∧d≠g)→Below w0.heap.size w0 W→d<W.heap.size →
  Calls Tryz.prog 35 #[v1,v'] W fun e W1=>e=.returned (.tuple #[])∧Below w0.heap.size w0 W1∧W1.heap[d]?=W.heap[d]?∧d<W1.heap.size ∧
   Calls Tryz.prog 36 #[v2] W1 fun e W2=>e=.returned (.tuple #[])∧Below w0.heap.size w0 W2∧W2.heap[d]?=W1.heap[d]?∧d<W2.heap.size ∧
    ∀ Z0,Below W2.heap.size W2 Z0→Calls Tryz.prog 35 #[v3,v4] Z0 fun e W3=>e=.returned (.tuple #[])∧Below w0.heap.size w0 W3∧W3.heap[d]?=W2.heap[d]?∧d<W3.heap.size∧jc w0.heap.size (fun _=>True) W3 D v
theorem SK (w0:World) (D OL:List ku) (a:Option Addr) (c n hd tl rs on:Nat) (v':Value) (hD:PY D) (hO:PY OL) (hlen:D.length≤1000000) (zh:OL.length≤1000000) (hT:qI w0) (hG:qd w0) (hv':jc 0 (fun _=>True) w0 OL v')
  (hn:D.length=n) (hon:OL.length=on) (hhd:rH (nU D) (nU OL)=hd) (htl:rJ (nU D) (nU OL)=tl) (hrs:n - tl=rs) (hc:n≤c) (hnil:D=[]→jc w0.heap.size (fun _=>True) w0 [] (.slice a n c)) :
  ∃ v1 v2 v3 v4,Fill w0 D OL (.slice a n c) v' v1 v2 v3 v4 hd tl rs n on:=by
 have hle:=BZ (nU D) (nU OL);rw [kI,kI,hn,hon,hhd,htl] at hle;have hold:=YS hv';obtain ⟨oa,oc,rfl⟩:=lY hv';obtain ⟨_,hoc,_⟩:=uy hv';rw [hon] at hoc;refine ⟨_,_,_,_,afk a n c hd (by omega),abQ a n c hd rs (by omega) (by omega),WW a n c rs (by omega),by rw [hon];exact WW oa on oc (on - tl) (by omega),?_⟩;rintro W d hst hb TR
 rcases hst with h0|⟨g,c2,hv,hS,hdg⟩
 ·have hn0:n=0:=by rw [← hn,h0];rfl
  have e1:hd=0:=by omega
  have e2:rs=0:=by omega
  have hdc:=hnil h0;subst h0;subst hn0;subst e1;subst e2;refine (DC _ _ _ W).mono ?_;rintro e W1 ⟨rfl,rfl⟩;refine ⟨rfl,hb,rfl,TR,(vU _ _ W).mono ?_⟩;rintro e W2 ⟨rfl,rfl⟩;refine ⟨rfl,hb,rfl,TR,fun Z0 hb2=>(DC _ _ _ Z0).mono ?_⟩;rintro e W3 ⟨rfl,rfl⟩
  exact ⟨rfl,hb.trans (hb2.mono hb.size),hb2.block _ TR,aD TR hb2.size,jc.later (by obtain ⟨a1,a2,a3,a4,_⟩:=hdc;exact ⟨a1,a2,a3,a4,.inl rfl⟩) (W:=w0) (hb.trans (hb2.mono hb.size))⟩
 ·simp only [cZ] at hv
  obtain ⟨rfl,_,rfl⟩:=hv;have hN:=SI hD
  have sg1:Seg g 0 hd (.slice (if c=0 then some ⟨g,0,none⟩ else (some (⟨g,0,none⟩:Addr)).map (·.add (0*10))) hd c):=⟨_,_,rfl,by
   by_cases h:hd=0
   ·exact .inl h
   ·right;rw [ai (by omega)];simp [Addr.add_lit]⟩
  have sg2:Seg g (0+hd) (rs - hd) (.slice (if c=hd then some ⟨g,0,none⟩ else (some (⟨g,0,none⟩:Addr)).map (·.add (hd*10))) (rs - hd) (c - hd)):=⟨_,_,rfl,by
   by_cases h:rs - hd=0
   ·exact .inl h
   ·right;rw [ai (by omega),bz];simp [Addr.add_lit]⟩
  have sg3:Seg g (0+hd+(rs - hd)) (n - rs) (.slice (if c=rs then some ⟨g,0,none⟩ else (some (⟨g,0,none⟩:Addr)).map (·.add (rs*10))) (n - rs) (c - rs)):=⟨_,_,rfl,by
   by_cases h:n - rs=0
   ·exact .inl h
   ·right;rw [ai (by omega),show 0+hd+(rs - hd)=rs by omega];simp [Addr.add_lit]⟩
  refine (JS w0 W D OL 0 hd g c _ _ sg1 hS (by omega) hlen hN (.inr (by rw [hon] at hold ⊢;exact hold)) (by omega) zh (fun i hi=>OU hD hO i (by omega) (by omega) (by omega)) hb).mono ?_;rintro e W1 ⟨rfl,hS1,hb1,ho1⟩;refine ⟨rfl,hb1,ho1.2 d TR hdg,aD TR ho1.1,(SF w0 W1 D (0+hd) (rs - hd) g c _ sg2 hS1 (by omega) hlen hN hD hT hG hb1).mono ?_⟩;rintro e W2 ⟨rfl,hS2,hb2,ho2⟩;refine ⟨rfl,hb2,ho2.2 d (aD TR ho1.1) hdg,aD (aD TR ho1.1) ho2.1,fun Z0 hb3=>?_⟩;have hd2:d<W2.heap.size:=aD (aD TR ho1.1) ho2.1
  refine (JS w0 Z0 D (OL.drop (on - tl)) (0+hd+(rs - hd)) (n - rs) g c _ _ sg3 (hS2.later hb3) (by omega) hlen hN (by
   by_cases h:n - rs=0
   ·exact .inl h
   ·right;rw [hon] at hold;exact SH hold (by omega)) (by rw [bC];omega) (by rw [bC];omega) (fun i hi=>OV hD hO i _ _ (by omega) (by omega) (by omega) (by rw [bC];omega) (by omega)) (hb2.trans (hb3.mono hb2.size))).mono ?_
  rintro e W3 ⟨rfl,Cy,hb4,ho3⟩;refine ⟨rfl,hb4,(ho3.2 d (aD hd2 hb3.size) hdg).trans (hb3.block _ hd2),aD (aD hd2 hb3.size) ho3.1,?_⟩
  have hfin:0+hd+(rs - hd)+(n - rs)=D.length:=by omega
  rw [hfin] at Cy;have:=OT Cy;rw [hn] at this
  exact this
end Ud
end Go.Proofs.YtojoahlpgmnbnaaGreatDoor
