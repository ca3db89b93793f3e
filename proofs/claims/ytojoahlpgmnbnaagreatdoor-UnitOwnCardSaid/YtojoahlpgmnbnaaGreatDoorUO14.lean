/- What the claim needs of the texts QProgP, QProg, UDecl, USt, URead, USame. -/
import Derived.Test.YtojoahlpgmnbnaaGreatDoorUOOp
import Derived.Test.YtojoahlpgmnbnaaGreatDoorUO13
import Derived.Maps.AppendAt
import Derived.Maps.OwnIn
import Derived.Deep.RegionHeld3
import Derived.Deep.RegionWith
import Derived.BigRegion
import Derived.Deep.AppendLies
import Derived.Test.YtojoahlpgmnbnaaGreatDoorUO10
set_option maxRecDepth 20000
set_option maxHeartbeats 16000000
namespace Go.Proofs.YtojoahlpgmnbnaaGreatDoor
namespace Q
open Go.Lib hiding intOf
open U S L
def WQ (s:By) (f e:Nat):su:=⟨f,e,yB s f,false⟩
def o9 (s:By):Nat→List Nat→List su
 | _,[]=>[]
 | f,c :: cs=>WQ s f c :: o9 s c cs
def xW (s:By) (e f:Nat) (cs:List Nat):List su:=o9 s f cs++[WQ s (lU f cs) e]
def lH (s:By):Option Nat→List su
 | none=>[]
 | some q=>xW s q 0 (mW s 1 (q - 1))
theorem Dv (s:By):∀ (A B:List Nat) (f:Nat),o9 s f (A++B)=o9 s f A++o9 s (lU f A) B
 | [],_,_=>rfl
 | c :: A,B,f=>by simp only [bH,o9,lU,Dv s A B c]
theorem Dw (s:By):∀ (A:List Nat) (f:Nat),(o9 s f A).length=A.length
 | [],_=>rfl
 | c :: A,f=>by simp only [o9,aH,Dw s A c]
theorem Sv (s:By) (a n:Nat):(mW s a n).length≤n:=by
 have:=List.length_filter_le (yB s) (List.range' a n);rw [List.length_range'] at this
 exact this
theorem OK (s:By) (q:Nat):(lH s (some q)).length≤q+1:=by
 have:=Sv s 1 (q - 1);simp only [lH,xW,aM,Dw,aH,dM]
 omega
theorem Ak {s:By} {p q:Nat} (h:Du s p q):mW s (p+1) (q - 1 - p)=[]:=by
 refine List.eq_nil_iff_forall_not_mem.2 fun c hc=>?_
 obtain ⟨h1,h2,h3⟩:=vT hc
 exact h.within (c - 1) (by omega) (by omega) (YM h3 (by omega))
theorem OM {s:By} {p q:Nat} (h:Du s p q):mV ((s.drop p).take (q - p))=yB s p:=by
 have hb:yB s p=mV (s.drop p):=by
  unfold yB
  rcases h.ahead with h0|h0
  ·simp [h0]
  ·simp [h0]
 rw [hb]
 rcases h.behind with h1|⟨h1,h2⟩
 ·rw [bX (by rw [bC];omega)]
 ·obtain ⟨y,e1,e2⟩:=Su s h1 h2
  rw [e2,e1,Da,Da]
theorem JO {s:By} {o o':Option Nat} {p q:Nat} (h:Nb s o (p,q) o') (hd:yB s p=true∨p=0):lH s o'=lH s o++[⟨p,q,yB s p,false⟩]:=by
 obtain ⟨hl,ho,rfl⟩:=h;simp only at hl ho
 rcases ho with ⟨rfl,rfl⟩|⟨rfl,h0⟩
 ·have:=Ak hl
  rw [bz,Nat.sub_zero] at this;simp only [lH,xW,this,o9,lU,fA]
  rfl
 ·have hb:yB s p=true:=by
   rcases hd with hd|hd
   ·exact hd
   ·omega
  have hpq:p<q:=by
   rcases hl.behind with h1|h1
   ·have:=OC (Ss hb)
    rw [bC] at this
    omega
   ·exact h1.1
  have hc:mW s 1 (q - 1)=mW s 1 (p - 1)++[p]:=by
   have:=JD s 1 (p - 1) (q - 1 - p+1);rw [show p - 1+(q - 1 - p+1)=q - 1 by omega,show 1+(p - 1)=p by omega,Aj,ay hb,Ak hl] at this
   exact this
  simp only [lH,xW,hc,Dv,Fj,o9,lU,dC]
  rfl
theorem Vv {s:By} {o o':Option Nat} {p q:Nat} (h:Nb s o (p,q) o') (hd:yB s p=false) (h0:p≠0):∃ L x,lH s o=L++[x]∧lH s o'=L++[⟨x.f,q,x.d,x.j⟩]:=by
 obtain ⟨hl,ho,rfl⟩:=h;simp only at hl ho
 rcases ho with ⟨_,h1⟩|⟨rfl,_⟩
 ·exact absurd h1 h0
 ·have hc:mW s 1 (q - 1)=mW s 1 (p - 1):=by
   by_cases hpq:p<q
   ·have:=JD s 1 (p - 1) (q - 1 - p+1)
    rw [show p - 1+(q - 1 - p+1)=q - 1 by omega,show 1+(p - 1)=p by omega,Aj,ai (by rw [hd];simp),Ak hl,eB] at this
    exact this
   ·rw [show q=p by have:=hl.pq;omega]
  exact ⟨o9 s 0 (mW s 1 (p - 1)),WQ s (lU 0 (mW s 1 (p - 1))) p,rfl,by simp only [lH,xW,hc];rfl⟩
theorem Fx (s:By):∀ (cs:List Nat) (f:Nat),yB s f=true→(∀ c∈cs,yB s c=true)→uN s f cs=o9 s f cs
 | [],_,_,_=>rfl
 | c :: cs,f,hf,h=>by
  simp only [uN,o9];rw [Fx s cs c (h c (by simp)) (fun x hx=>h x (bf _ hx))]
  congr 1
  unfold made WQ
  rw [hf];rfl
theorem Sw (s:By):∃ x r,lH s (some s.length)=x :: r∧pieces s=⟨x.f,x.e,x.d,!x.d&&hw (s.take x.e)⟩ :: r∧x.e≤s.length∧x.j=false:=by
 have hb:∀ c∈mW s 1 (s.length - 1),yB s c=true:=fun c hc=>(vT hc).2.2
 have hlt:∀ c∈mW s 1 (s.length - 1),c<s.length:=fun c hc=>by
  obtain ⟨h1,h2,_⟩:=vT hc
  omega
 have e0:lH s (some s.length)=xW s s.length 0 (mW s 1 (s.length - 1)):=rfl;rw [e0]
 unfold pieces chain xW
 clear e0;generalize mW s 1 (s.length - 1)=cs at hb hlt
 cases cs with
 | nil=>exact ⟨WQ s 0 s.length,[],rfl,rfl,ae _,rfl⟩
 | cons c cs =>
  refine ⟨WQ s 0 c,_,rfl,?_,fu (hlt c (by simp)),rfl⟩
  have hl:yB s (lU c cs)=true:=by
   rcases Fq cs c with h|h
   ·rw [h];exact hb c (by simp)
   ·exact hb _ (bf _ h)
  have hm:made s (lU c cs) s.length=WQ s (lU c cs) s.length:=by unfold made WQ;rw [hl];rfl
  simp only [uN,lU,bH];rw [Fx s cs c (hb c (by simp)) (fun x hx=>hb x (bf _ hx)),hm]
  rfl
theorem OO (L:List su) (x:su) (q:Nat):(lX (L++[x])).set (L.length*4+1) (.int .i64 q)=lX (L++[⟨x.f,q,x.d,x.j⟩]):=by
 rw [mX,mX,fo _ _ (by rw [jo];omega),jo,show L.length*4+1 - 4*L.length=1 by omega]
 rfl
theorem Fy (r:List su) (x:su) (b:Bool):(lX (x :: r)).set 3 (.bool b)=lX (⟨x.f,x.e,x.d,b⟩ :: r):=rfl
end Q
namespace Q
open Go.RowKit
open Go.Lib hiding intOf
open U S L
def ZX (d:Nat) (w:World) (s:ByteArray) (o:Option Nat) (W:World):Prop :=
 ∃ v,Boxed W d 65 v∧Boxed W (d+1) 9 (.string s)∧W.ownsRow d 67 4 v (lH s.toList o).length (lX (lH s.toList o))∧Below d w W
theorem Vw {d:Nat} {w:World} {s:ByteArray} {B:Nat} (hB:d+1<B) (hd:d≤w.heap.size):OwnFrom B (fun o W=>ZX d w s o W):=by
 rintro _ X Y row ⟨v,h1,h2,h3,h4⟩ hg hr
 have hlt:∀ k,some k=row→B≤k:=fun k e=>(hr k e.symm).1
 refine ⟨v,h1.kept hg (fun e=>by have:=hlt _ e;omega),h2.kept hg (fun e=>by have:=hlt _ e;omega),h3.kept hg ?_,h4.grown hg (aJ hd h4.size) (fun k e=>by have:=hlt _ e.symm;omega)⟩
 rcases h3.2 with ⟨rfl,_⟩|⟨g,cap,cur,rfl,_,hgb,_⟩
 ·exact .inl rfl
 ·refine .inr fun e=>?_
  obtain ⟨_,ob,ho,hc⟩:=hr g (by simpa [Value.ownBlock] using e.symm);rw [hgb] at ho;cases ho;cases hc
attribute [local go_sem] Oper.semAt_some
theorem OQ (w:World) (s:ByteArray):ZX w.heap.size w s none ((w.alloc (.cells #[.slice none 0 0] 65)).alloc (.cells #[.string s] 9)):=by
 have h2:=Boxed.new (w.alloc (.cells #[.slice none 0 0] 65)) 9 (.string s);rw [aX] at h2
 exact ⟨_,(Boxed.new w _ _).alloc _,h2,dD _ _ _ _,((aj _ w).alloc (ae _) _).alloc (by simp) _⟩
theorem ZX.later {d:Nat} {w:World} {s:ByteArray} {o:Option Nat} {W W':World} {v:Value} (h1:Boxed W d 65 v) (h2:Boxed W (d+1) 9 (.string s)) (h3:W.ownsRow d 67 4 v (lH s.toList o).length (lX (lH s.toList o))) (h4:Below d w W) (hb:Below W.heap.size W W') :
  Boxed W' d 65 v∧Boxed W' (d+1) 9 (.string s)∧W'.ownsRow d 67 4 v (lH s.toList o).length (lX (lH s.toList o))∧Below d w W' :=
 ⟨(hb.block _ h1.lt).trans h1,(hb.block _ h2.lt).trans h2,aV h3 hb,h4.trans (hb.mono (fu h1.lt))⟩
theorem Al {s:By} {o o':Option Nat} {p q:Nat} (h:Nb s o (p,q) o') (hs:s.length≤1000000):(lH s o).length≤1000001:=by
 rcases h.2.1 with ⟨rfl,_⟩|⟨rfl,_⟩
 ·simp [lH]
 ·have h1:=OK s p
  have h2:=h.1.pq;have h3:=h.1.ql;dsimp only at h1 h2 h3 ⊢
  omega
theorem JP {W W':World} (hb:Below W.heap.size W W'):KeepsOthers W W':=⟨hb.size,fun k _ hk _=>(hb.block k (af.1 hk).1).trans hk⟩
theorem GX {d:Nat} {w:World} {s:ByteArray} {o':Option Nat} {W:World} {g n c m q:Nat} {L:List su} {x:su} (h1:Boxed W d 65 (.slice (some ⟨g,0,none⟩) n c)) (h2:Boxed W (d+1) 9 (.string s)) (h3:W.ownsRow d 67 4 (.slice (some ⟨g,0,none⟩) n c) n (lX (L++[x]))) (h4:Below d w W) (hm:L.length=m) (hn:m+1=n) (ho:lH s.toList o'=L++[⟨x.f,q,x.d,x.j⟩]) :
  ZX d w s o' (W.setCell ⟨g,m*4+1,none⟩ (.int .i64 q))∧KeepsOthers W (W.setCell ⟨g,m*4+1,none⟩ (.int .i64 q))∧(W.setCell ⟨g,m*4+1,none⟩ (.int .i64 q)).heap[d+1]?=W.heap[d+1]?:=by
 obtain ⟨h5,h6⟩:=h3.stored (m*4+1) (.int .i64 q);have hg:=h3.lt g rfl;have hb1:=h1.not_row (by decide) h3;have hb2:=h2.not_row (by decide) h3;have h2':=h2.kept h6 (by simpa [Value.ownBlock] using hb2);refine ⟨⟨_,h1.kept h6 (by simpa [Value.ownBlock] using hb1),h2',?_,h4.grown h6 (aJ h4.size (ae _) |> fun h=>by have:=h1.lt;omega) (fun k e=>by cases e;exact hg.1)⟩,KeepsOthers.setCell _ _ _,h2'.trans h2.symm⟩;rw [ho];rw [← hm,OO] at h5
 have hl:(L++[(⟨x.f,q,x.d,x.j⟩:su)]).length=n:=by simp;omega
 rw [hl,← hm]
 exact h5
theorem Dx (s:ByteArray) (w:World) (hs:s.size≤1000000) (hT:qI w) :
  Calls Tryz.prog 27 #[.string s] w fun e w'=>∃ v,e=.returned v∧Dr w.heap.size w' (pieces s.toList) v∧Below w.heap.size w w':=by
 obtain ⟨d,hd⟩:∃ d,w.heap.size=d:=⟨_,rfl⟩;refine (callsIn_wide (n:=4)).1 ?_;refine callsIn_of_wp_marks Tryz.func27 rfl trivial ?_ rfl;simp only [Tryz.ntmps27,List.size_toArray,aH,dM,Nat.reduceAdd,Nat.reduceSub,Array.replicate_succ,Array.replicate_zero,List.push_toArray,List.append_toArray,fA,bH];refine wpIn_wide.2 ?_
 have c1:=fun X=>ru s X
 go_wp2_with (go_at_call 46;refine (c1 _).mono ?_;rintro e w' ⟨rfl,rfl⟩)
 have YN:=OQ w s;rw [hd] at YN;obtain ⟨W0,hW0⟩:∃ W0,(w.alloc (.cells #[.slice none 0 0] 65)).alloc (.cells #[.string s] 9)=W0:=⟨_,rfl⟩
 have hz0:W0.heap.size=d+2:=by rw [← hW0];simp [hd]
 have hk0:W0.heap[d+1]?=some (.cells #[.string s] 9 (0,0)):=by
  obtain ⟨_,_,h,_⟩:=YN;rw [hW0] at h
  exact h
 rw [hW0] at YN ⊢;clear hW0 c1
 refine Cw (gf:=69) (lb:=#[.pointer (some ⟨d+1,0,none⟩)]) rfl (enters_of Tryz.func69 (by kernel_rfl) rfl) (JN s (d+1) W0 hk0 (by omega)) (aj _ _) (by omega) (fun _=>rfl) (ZX d w s) (Vw (by omega) (by omega)) YN
  (fun x=>{ tmps:=#[.string s,undef,.slice none 0 0,.pointer (some ⟨d,0,none⟩),.int .i64 x.1,.string (s.extract x.1 x.2),undef,undef,.string s,.func (.func 69) #[] #[.pointer (some ⟨d+1,0,none⟩)],.int .i64 x.1,.string (s.extract x.1 x.2),undef,undef,undef,undef,undef,undef,undef,undef,undef,undef,undef,undef,undef,undef,undef,undef,undef,undef,undef,undef,undef,undef,undef,undef,undef,undef,undef,undef,undef,undef,undef,undef,undef,undef,undef,undef,undef,undef,undef,undef],defers:=[] }) ?assign ?body ?done
 case assign =>
  intro l x W K hK;dsimp only [Vu]
  gi_wp2
  exact hK
 case body =>
  rintro l o ⟨p,q⟩ o' W hN ⟨v,hv,hk,hrow,hB⟩;dsimp only;obtain ⟨hl,_⟩:=id hN;dsimp only at hl;have Rx:=hl.ql;rw [dR] at Rx;have hpq:=hl.pq;obtain ⟨y,hy⟩:∃ y,s.extract p q=y:=⟨_,rfl⟩
  have T9:y.size=q - p:=by rw [← hy,size_extract s p q hpq Rx]
  have hyb:mV y.toList=yB s.toList p:=by rw [← hy,S.ext_list];exact OM hl
  have cD:=GV y W (by omega) (hT.later (by rw [hd];exact hB));rw [hyb] at cD;have e1:IntKind.i64.wrap ((p:Int)+(y.size:Int))=(q:Int):=(bg _ (by omega)).trans (by omega);rw [hy];have HN:=hid hN;have HA:=hid (fun W' hb=>ZX.later (W':=W') hv hk hrow hB hb);have hkW:W.heap[d+1]?=some (.cells #[.string s] 9 (0,0)):=hk;clear hN hl hy hyb hv hk hrow hB;obtain ⟨b,hb⟩:∃ b,yB s.toList p=b:=⟨_,rfl⟩;rw [hb] at cD;obtain ⟨i0,hi0,hz0',hz1,hz2⟩:=fF EO
  gi_wp2
  refine ⟨trivial,?_⟩;refine (CallsIn.inRound l (callsIn_wide.2 cD)).mono ?_;rintro e W1 ⟨rfl,hb1⟩;obtain ⟨hv1,hk1,hr1,hB1⟩:=HA.out W1 hb1;have HKO:=hid (JP hb1);have ZY:Hid (W.heap[d+1]?=some (.cells #[.string s] 9 (0,0))):=hid hkW;clear hkW;clear hb1 cD HA
  cases b
  ·by_cases hp0:p=0
   ·subst hp0
    obtain rfl:q=y.size:=by omega
    clear T9 e1;have HO:=hid (JO HN.out (.inr rfl));rw [hb] at HO;have hlen:(lH s.toList o).length≤1000001:=Al HN.out (by rw [dR];exact hs);obtain ⟨L,hL⟩:∃ L,lH s.toList o=L:=⟨_,rfl⟩;rw [hL] at HO hr1 hlen;obtain ⟨m,hm⟩:∃ m,L.length=m:=⟨_,rfl⟩;have HM:=hid hm;rw [hm] at hr1 hlen;obtain ⟨va,vc,rfl⟩:=fD hr1;have hc:=hv1.cell;have KV:=hid hv1;have QY:=hid hk1;have HR1:=hid hr1;have HB1:=hid hB1;clear hb hL hm hv1 hk1 hr1 hB1;have YO:=KV.out.lt
    gi_wp2_with (gi_at_builtin;refine wpListIn_append_own _ rfl _ _ 65 rfl d 67 i0 (.agg #[.int .i64 0,.int .i64 0,.bool false,.bool false]) 4 24 Tryz.underlying65 hi0 hz0' hz1 hz2 rfl (by decide) _ _ _ rfl (HR1.out.alloc _) ⟨W1.heap.size,0,none⟩ 1 1 (lX [⟨0,0,false,false⟩]) rfl rfl ?c1 (tJ _) ?c3 ?c4 ?c5 ?_)
    case c1=>exact GU _ _ _ _ _ _
    case c3=>unfold maxLen;omega
    case c4=>omega
    case c5=>rw [aX];omega
    intro v3 w3 bY aP _;obtain ⟨g,c,rfl⟩:=ownsRow_succ bY;obtain ⟨n,hn⟩:∃ n,m+1=n:=⟨_,rfl⟩;rw [hn] at bY ⊢;obtain ⟨hv3,hv4,hr4,hk4,hb4⟩:=KV.out.appended (by decide) HR1.out (fu YO) (ae _) bY aP;rw [← mX] at hr4;have hkk:Boxed (w3.setCell ⟨d,0,none⟩ (.slice (some ⟨g,0,none⟩) n c)) (d+1) 9 (.string s):=((QY.out.alloc _).kept aP (QY.out.not_row (by decide) HR1.out)).kept (grownBy_setCell' w3 d _) (by simp);have hps:=GX (q:=y.size) hv4 hkk hr4 (HB1.out.trans hb4) HM.out hn HO.out;have c3:=hv3.cell;have f3:=hv3.frozen;have c4:=hv4.cell
    have c5:(w3.setCell ⟨d,0,none⟩ (.slice (some ⟨g,0,none⟩) n c)).cell? ⟨g,m*4+1,none⟩=some (.int .i64 0):=by
     rw [hr4.cellAt (m*4+1) (by omega),← HM.out,mX,aK (by rw [jo];omega),jo,show L.length*4+1 - 4*L.length=1 by omega]
     rfl
    have f5:=hr4.frozenAt (m*4+1);have WR:=hid hps;have Sy:=hid ((HKO.out.trans hk4).trans hps.2.1);have HKK:=hid hkk
    have hmn:(m:Int)<(n:Int):=by omega
    have hm0:(0:Int)≤(m:Int):=by omega
    have hn0:0<n:=by omega
    have hi1:IntKind.i64.wrap ((n:Int) - 1)=(m:Int):=(bg _ (by omega)).trans (by omega);clear bY aP hv3 hv4 hr4 hk4 hb4 hkk hps hc hn
    gi_wp2
    exact ⟨Sy.out,WR.out.2.2.trans (Eq.trans HKK.out ZY.out.symm),WR.out.1⟩
   ·clear T9
    obtain ⟨L,x,hL1,hL2⟩:=Vv HN.out hb hp0;have hlen:=Al HN.out (by rw [dR];exact hs);rw [hL1] at hr1 hlen;obtain ⟨m,hm⟩:∃ m,L.length=m:=⟨_,rfl⟩;obtain ⟨n,hn⟩:∃ n,(L++[x]).length=n:=⟨_,rfl⟩
    have abJ:m+1=n:=by rw [← hn,← hm];simp
    rw [hn] at hr1 hlen;obtain ⟨g,c,rfl,_,_,_⟩:=lN hr1 (by omega);have hps:=GX (q:=q) hv1 hk1 hr1 hB1 hm abJ hL2;have hc:=hv1.cell
    have c5:W1.cell? ⟨g,m*4+1,none⟩=some (.int .i64 x.e):=by
     rw [hr1.cellAt (m*4+1) (by omega),← hm,mX,aK (by rw [jo];omega),jo,show L.length*4+1 - 4*L.length=1 by omega]
     rfl
    have f5:=hr1.frozenAt (m*4+1);have WR:=hid hps;have Sy:=hid (HKO.out.trans hps.2.1);have HKK:=hid hk1
    have hmn:(m:Int)<(n:Int):=by omega
    have hm0:(0:Int)≤(m:Int):=by omega
    have hn0:0<n:=by omega
    have hi1:IntKind.i64.wrap ((n:Int) - 1)=(m:Int):=(bg _ (by omega)).trans (by omega)
    have uU:decide (p=0)=false:=by simpa using hp0
    clear hb hL1 hL2 hm hn abJ hv1 hk1 hr1 hB1 hps
    gi_wp2
    exact ⟨Sy.out,WR.out.2.2.trans (Eq.trans HKK.out ZY.out.symm),WR.out.1⟩
  ·clear T9
   have HO:=hid (JO HN.out (.inl hb));rw [hb] at HO;have hlen:(lH s.toList o).length≤1000001:=Al HN.out (by rw [dR];exact hs);obtain ⟨L,hL⟩:∃ L,lH s.toList o=L:=⟨_,rfl⟩;rw [hL] at HO hr1 hlen;obtain ⟨m,hm⟩:∃ m,L.length=m:=⟨_,rfl⟩;have HM:=hid hm;rw [hm] at hr1 hlen;obtain ⟨va,vc,rfl⟩:=fD hr1;have hc:=hv1.cell;have KV:=hid hv1;have QY:=hid hk1;have HR1:=hid hr1;have HB1:=hid hB1;clear hb hL hm hv1 hk1 hr1 hB1;have YO:=KV.out.lt
   gi_wp2_with (gi_at_builtin;refine wpListIn_append_own _ rfl _ _ 65 rfl d 67 i0 (.agg #[.int .i64 0,.int .i64 0,.bool false,.bool false]) 4 24 Tryz.underlying65 hi0 hz0' hz1 hz2 rfl (by decide) _ _ _ rfl (HR1.out.alloc _) ⟨W1.heap.size,0,none⟩ 1 1 (lX [⟨p,0,true,false⟩]) rfl rfl ?c1 (tJ _) ?c3 ?c4 ?c5 ?_)
   case c1=>exact GU _ _ _ _ _ _
   case c3=>unfold maxLen;omega
   case c4=>omega
   case c5=>rw [aX];omega
   intro v3 w3 bY aP _;obtain ⟨g,c,rfl⟩:=ownsRow_succ bY;obtain ⟨n,hn⟩:∃ n,m+1=n:=⟨_,rfl⟩;rw [hn] at bY ⊢;obtain ⟨hv3,hv4,hr4,hk4,hb4⟩:=KV.out.appended (by decide) HR1.out (fu YO) (ae _) bY aP;rw [← mX] at hr4;have hkk:Boxed (w3.setCell ⟨d,0,none⟩ (.slice (some ⟨g,0,none⟩) n c)) (d+1) 9 (.string s):=((QY.out.alloc _).kept aP (QY.out.not_row (by decide) HR1.out)).kept (grownBy_setCell' w3 d _) (by simp);have hps:=GX (q:=q) hv4 hkk hr4 (HB1.out.trans hb4) HM.out hn HO.out;have c3:=hv3.cell;have f3:=hv3.frozen;have c4:=hv4.cell
   have c5:(w3.setCell ⟨d,0,none⟩ (.slice (some ⟨g,0,none⟩) n c)).cell? ⟨g,m*4+1,none⟩=some (.int .i64 0):=by
    rw [hr4.cellAt (m*4+1) (by omega),← HM.out,mX,aK (by rw [jo];omega),jo,show L.length*4+1 - 4*L.length=1 by omega]
    rfl
   have f5:=hr4.frozenAt (m*4+1);have WR:=hid hps;have Sy:=hid ((HKO.out.trans hk4).trans hps.2.1);have HKK:=hid hkk
   have hmn:(m:Int)<(n:Int):=by omega
   have hm0:(0:Int)≤(m:Int):=by omega
   have hn0:0<n:=by omega
   have hi1:IntKind.i64.wrap ((n:Int) - 1)=(m:Int):=(bg _ (by omega)).trans (by omega);clear bY aP hv3 hv4 hr4 hk4 hb4 hkk hps hc hn
   gi_wp2
   exact ⟨Sy.out,WR.out.2.2.trans (Eq.trans HKK.out ZY.out.symm),WR.out.1⟩
 case done =>
  rintro D o W hD rfl ⟨v,hv,hk,hrow,hB⟩ hK;obtain ⟨x,r,hx,hp,hxe,hxj⟩:=Sw s.toList;rw [dR] at hx hxe;rw [hx] at hrow;obtain ⟨n,hn⟩:∃ n,(x :: r).length=n:=⟨_,rfl⟩
  have hn0:0<n:=by rw [← hn];simp
  rw [hn] at hrow;obtain ⟨g,c,rfl,hnc,_,hgw⟩:=lN hrow hn0;have hc:=hv.cell
  have hat:∀ j u,(lX (x :: r))[j]?=some u→j<n*4→W.cell? ⟨g,j,none⟩=some u:=fun j u h1 h2=>by rw [hrow.cellAt j h2];exact h1
  have q0:=hat 0 _ rfl (by omega);have q1:=hat 1 _ rfl (by omega);have q2:=hat 2 _ rfl (by omega);have q3:=hat 3 _ rfl (by omega);have HV:=hid hv;have HR:=hid hrow;have HB:=hid hB;have HK:=hid hK;have HP:=hid hp;have HXE:=hid hxe;obtain ⟨f,e,b,jj⟩:=x;dsimp only at hxj hxe hp;subst hxj;have ZS:=hid hn;clear hat hv hk hrow hB hK hp hx hn
  go_upto_region 10 with fail
  clear q0 q1 q2 q3 hc;obtain ⟨F,hF⟩:∃ F,W.heap.size=F:=⟨_,rfl⟩;obtain ⟨W2,hW2⟩:∃ W2,W.alloc (.cells #[.int .i64 f,.int .i64 e,.bool b,.bool false] 67)=W2:=⟨_,rfl⟩
  have hbW:Below W.heap.size W W2:=by rw [← hW2];exact (aj _ W).alloc (ae _) _
  have hFb:W2.heap[F]?=some (.cells #[.int .i64 f,.int .i64 e,.bool b,.bool false] 67 (0,0)):=by rw [← hW2,← hF];exact gu W _
  have hD2:D<W.heap.size:=(af.1 HK.out).1;have Kr:Hid (W2.heap[D]?=some (.deferred (some []))):=hid ((hbW.block D hD2).trans HK.out);have HR2:=hid (aV HR.out hbW);have GY:Hid (Boxed W2 d 65 (.slice (some ⟨g,0,none⟩) n c)):=hid ((hbW.block d HV.out.lt).trans HV.out);have HB2:Hid (Below d w W2):=hid (HB.out.trans (hbW.mono (fu HV.out.lt)));have k0:=GY.out.cell
  have k1:W2.cell? ⟨F,1,none⟩=some (.int .i64 e):=by simp [World.cell?,hFb]
  have k2:W2.cell? ⟨F,2,none⟩=some (.bool b):=by simp [World.cell?,hFb]
  have hfin:∀ (v:Value) (X:World) (l:List su),X.heap[D]?=some (.deferred (some []))→X.ownsRow d 67 4 v n (lX l)→l.length=n→Below d w X→Dr w.heap.size (X.putObj D (.deferred none)) l v∧Below w.heap.size w (X.putObj D (.deferred none)):=fun v X l h1 h2 h3 h4 =>
   ⟨Na (ownsRow_putObj h2 _ h1 rfl) h3 (by omega),by
    rw [hd]
    exact h4.trans (belowK_b (w:=w) (by omega) X D _ _ (by omega) h1 rfl rfl)⟩
  have YP:=hid hfin;have HFB:=hid hFb;have q3:=HR2.out.cellAt 3 (by omega);have f3:=HR2.out.frozenAt 3;have abL:=(HR2.out.lt g rfl).2;rw [hF,hW2];have HDE:=hid hd;have HDW:Hid (d≤w.heap.size):=hid (by omega);have YB:Hid (D<W2.heap.size):=hid (by have:=hbW.size;omega)
  have HGD:Hid (g≠D):=hid (by
   rintro rfl;have h1:=HK.out
   rcases HR.out.2 with ⟨h2,_⟩|⟨g',cap,cur,h2,_,hgb,_⟩
   ·cases h2
   ·cases h2
    rw [h1] at hgb;cases hgb)
  clear hbW hFb hD2 hfin hd hW2 hF hgw
  cases b
  ·obtain ⟨k,hk⟩:∃ k,(fH (okB (s.extract 0 e)) (s.extract 0 e).toList).length=k:=⟨_,rfl⟩
   have hxe:e≤s.size:=HXE.out
   have Es:Hid (pieces s.toList=⟨f,e,false,decide (0<k)⟩ :: r):=hid (by
    rw [HP.out]
    have h:hw (s.toList.take e)=decide (0<k):=by
     unfold hw
     have h2:s.toList.take e=(s.extract 0 e).toList:=by rw [S.ext_list,bM,Nat.sub_zero]
     rw [h2,My,← hk]
     cases fH (okB (s.extract 0 e)) (s.extract 0 e).toList <;> simp
    simp [h])
   have hd0:d≤w.heap.size:=HDW.out
   have cS:∀ X,Below W2.heap.size W2 X→Calls Tryz.prog 48 #[.string (s.extract 0 e)] X fun e' w'=>∃ a cp,e'=.returned (.slice a k cp)∧(w'.cell? ⟨d,0,none⟩=some (.slice (some ⟨g,0,none⟩) n c)∧w'.cell? ⟨F,1,none⟩=some (.int .i64 e)∧w'.cell? ⟨g,3,none⟩=some (.bool false)∧w'.frozen? ⟨g,3,none⟩=false)∧Hid (Below W2.heap.size W2 w'):=fun X hX=>by
    refine (Jw (s.extract 0 e) X (by rw [ByteArray.size_extract];omega) (hT.later ((HB2.out.trans (hX.mono (fu GY.out.lt))).mono (ae _) |> fun h=>by rw [HDE.out];exact h))).mono ?_;rintro e' w' ⟨v,rfl,hv,hb⟩;have hb2:=hX.trans (hb.mono hX.size);obtain ⟨a,cp,rfl,_,_⟩:=hv;rw [hk];refine ⟨a,cp,rfl,⟨(hb2.cell (p:=⟨d,0,none⟩) GY.out.lt).trans k0,(hb2.cell (p:=⟨F,1,none⟩) (af.1 HFB.out).1).trans k1,(hb2.cell (p:=⟨g,3,none⟩) abL).trans q3,?_⟩,hid hb2⟩;rw [← f3];simp only [World.frozen?,hb2.block g abL]
   have hsl0:(0:Int)≤(e:Int):=by omega
   have hsl1:(e:Int)≤(s.size:Int):=by omega
   clear hk hd0
   by_cases hk0:0<k
   ·have hkd:decide (0<k)=true:=by simpa using hk0
    rw [hkd] at Es
    go_upto_region 11 with fail
    refine wp_mono (Q:=Exit.then _ (fun _ _ _=>False)) ?_ (fun e a w h=>by
     cases e
     ·exact h
     all_goals exact h.elim)
    go_region_with (first
     | (go_at_call 48;(with_reducible refine (cS _ ?_).mono ?_);(exact ⟨rfl,rfl,rfl,ae _,fun _ _=>rfl⟩);rintro e3 w6 ⟨a6,c6,rfl,⟨p0,p1,p2,p3⟩,qP⟩))
    all_goals
     have Vx:=(aV HR2.out qP.out).stored 3 (.bool true);have hv6:Boxed w6 d 65 (.slice (some ⟨g,0,none⟩) n c):=(qP.out.block d GY.out.lt).trans GY.out;have hv7:=hv6.kept Vx.2 (by simpa [Value.ownBlock] using hv6.not_row (by decide) (aV HR2.out qP.out));have SA:=hv7.cell;have YQ:=Vx.1;rw [Fy] at YQ;have sw:=hid YQ;have WS:Hid (Below d w (w6.setCell ⟨g,3,none⟩ (.bool true))):=hid ((HB2.out.trans (qP.out.mono (fu GY.out.lt))).grown Vx.2 (by have h1:=qP.out.size;have h2:=GY.out.lt;omega) (fun k' e=>by cases e;exact ((aV HR2.out qP.out).lt g rfl).1))
     have Vy:Hid ((w6.setCell ⟨g,3,none⟩ (.bool true)).heap[D]?=some (.deferred (some []))):=hid (by
      rw [ak _ _ _ _ (fun e=>HGD.out e.symm)]
      exact (qP.out.block D YB.out).trans Kr.out)
     clear p0 p1 p2 p3 Vx YQ hv6 hv7 k0 k1 k2 q3 f3 cS
     go_wp2_with fail
     refine ⟨by simp,.inl ⟨_,_,rfl,run_takeDeferred Vy.out,?_⟩⟩;rw [Es.out]
     exact ⟨_,results_tmp rfl _ _ _,.slice (some ⟨g,0,none⟩) n c,rfl,YP.out (.slice (some ⟨g,0,none⟩) n c) _ _ Vy.out sw.out ZS.out WS.out⟩
   ·obtain rfl:k=0:=by omega
    have hkd:decide (0<0)=false:=rfl;rw [hkd] at Es;clear hkd hk0
    go_upto_region 11 with fail
    refine wp_mono (Q:=Exit.then _ (fun _ _ _=>False)) ?_ (fun e a w h=>by
     cases e
     ·exact h
     all_goals exact h.elim)
    go_region_with (first
     | (go_at_call 48;(with_reducible refine (cS _ ?_).mono ?_);(exact ⟨rfl,rfl,rfl,ae _,fun _ _=>rfl⟩);rintro e3 w6 ⟨a6,c6,rfl,⟨p0,p1,p2,p3⟩,qP⟩))
    all_goals
     have Vx:=(aV HR2.out qP.out).stored 3 (.bool false);have hv6:Boxed w6 d 65 (.slice (some ⟨g,0,none⟩) n c):=(qP.out.block d GY.out.lt).trans GY.out;have hv7:=hv6.kept Vx.2 (by simpa [Value.ownBlock] using hv6.not_row (by decide) (aV HR2.out qP.out));have SA:=hv7.cell;have YQ:=Vx.1;rw [Fy] at YQ;have sw:=hid YQ;have WS:Hid (Below d w (w6.setCell ⟨g,3,none⟩ (.bool false))):=hid ((HB2.out.trans (qP.out.mono (fu GY.out.lt))).grown Vx.2 (by have h1:=qP.out.size;have h2:=GY.out.lt;omega) (fun k' e=>by cases e;exact ((aV HR2.out qP.out).lt g rfl).1))
     have Vy:Hid ((w6.setCell ⟨g,3,none⟩ (.bool false)).heap[D]?=some (.deferred (some []))):=hid (by
      rw [ak _ _ _ _ (fun e=>HGD.out e.symm)]
      exact (qP.out.block D YB.out).trans Kr.out)
     clear p0 p1 p2 p3 Vx YQ hv6 hv7 k0 k1 k2 q3 f3 cS
     go_wp2_with fail
     refine ⟨by simp,.inl ⟨_,_,rfl,run_takeDeferred Vy.out,?_⟩⟩;rw [Es.out]
     exact ⟨_,results_tmp rfl _ _ _,.slice (some ⟨g,0,none⟩) n c,rfl,YP.out (.slice (some ⟨g,0,none⟩) n c) _ _ Vy.out sw.out ZS.out WS.out⟩
  ·go_wp2_with fail
   refine ⟨by simp,.inl ⟨_,_,rfl,run_takeDeferred Kr.out,?_⟩⟩
   have Es:pieces s.toList=⟨f,e,true,false⟩ :: r:=by rw [HP.out];rfl
   rw [Es]
   exact ⟨_,results_tmp rfl _ _ _,.slice (some ⟨g,0,none⟩) n c,rfl,YP.out (.slice (some ⟨g,0,none⟩) n c) _ _ Kr.out HR2.out ZS.out HB2.out⟩
end Q
namespace Ud
open Go.RowKit
open Go.Lib hiding intOf
open U S Q T J
open K (gB dF)
def zer (d:ku):ku:=⟨d.f,d.e,d.tx,gB,0,0⟩
def mY:List ku→List Value
 | []=>[]
 | d :: r=>xh (zer d) (.slice none 0 0)++mY r
theorem y9:∀ l:List ku,(mY l).length=l.length*10
 | []=>rfl
 | d :: r=>by rw [mY,aM,gJ,y9 r,aH];omega
theorem FB:∀ (a b:List ku),mY (a++b)=mY a++mY b
 | [],_=>rfl
 | d :: r,b=>by rw [bH,mY,mY,FB r b,dC]
theorem JQ:∀ (l:List ku) (i j:Nat) (hi:i<l.length),j<10→(mY l)[i*10+j]?=(xh (zer l[i]) (.slice none 0 0))[j]?
 | d :: r,0,j,_,hj=>by
  rw [mY,bn (by rw [gJ];omega),Nat.zero_mul,bz];rfl
 | d :: r,i+1,j,hi,hj=>by
  have hl:=gJ (zer d) (.slice none 0 0);rw [mY,aK (by rw [hl];omega),hl,show (i+1)*10+j - 10=i*10+j by omega]
  exact JQ r i j (by simpa using hi) hj
theorem B5 (d:ku) (lv:Value) (h:lv.oneCell'=true):∀ u∈xh d lv,u.oneCell'=true:=by
 obtain ⟨f,e,tx,⟨k,t,pf,pe,ks⟩,x,r⟩:=d;intro u hu;simp only [xh,five,bA,List.mem_append,ek,or_false] at hu
 rcases hu with rfl|rfl|rfl|(rfl|rfl|rfl|rfl|rfl)|rfl|rfl
 all_goals first|exact h|rfl
theorem SB:(Tryz.prog.info? 52).map (fun i=>(i.zero,i.size,i.bytes))=some (some (.agg #[.int .i64 0,.int .i64 0,.string ⟨#[]⟩,.string ⟨#[]⟩,.string ⟨#[]⟩,.int .i64 0,.int .i64 0,.slice none 0 0,.int .i64 0,.int .i64 0]),10,120):=by kernel_rfl
def taken (s:ByteArray) (l:List su):List ku:=(l.filter (·.d)).map (LH s)
theorem JR (s:ByteArray) {l:List su} {i:Nat} (hi:i<l.length) (h:l[i].d=true):taken s (l.take (i+1))=taken s (l.take i)++[LH s l[i]]:=by
 unfold taken;rw [dE hi,List.filter_append,List.map_append];simp [List.filter,h]
theorem FC (s:ByteArray) {l:List su} {i:Nat} (hi:i<l.length) (h:l[i].d=false):taken s (l.take (i+1))=taken s (l.take i):=by
 unfold taken;rw [dE hi,List.filter_append,List.map_append];simp [List.filter,h]
theorem GZ (s:ByteArray) (w:World) (hs:s.size≤1000000) (hT:qI w) :
  Calls Tryz.prog 33 #[.string s] w fun e w'=>∃ v,e=.returned v∧w'.ownsRow w.heap.size 52 10 v (decls s).length (mY (decls s))∧Below w.heap.size w w':=by
 obtain ⟨iD,hi0,hz0,hz1,hz2⟩:=fF SB;have cP:=Dx s w hs hT;obtain ⟨P,hP⟩:∃ P,pieces s.toList=P:=⟨_,rfl⟩;have hlen:=o6 s.toList;rw [dR] at hlen;have hF:=(uq s.toList).1;have hE:=(uq s.toList).2;rw [dR] at hE;rw [hP] at cP hlen hF hE
 have hdl:decls s=taken s P:=by unfold decls taken;rw [hP]
 have HF:=hid (fun p (h:p∈P)=>GQ hF p h);rw [hdl];have HE:=hid hE;clear hT hP hF hE hdl
 go_enter Tryz.func33,Tryz.ntmps33
 go_wp2_with fail
 refine cP.mono ?_;rintro e w1 ⟨v,rfl,hv,hb1⟩;obtain ⟨pa,pc,rfl,hcap,hrow⟩:=hv;have HR:=hid hrow;have HB1:=hid hb1;obtain ⟨n,hn⟩:∃ n,P.length=n:=⟨_,rfl⟩;have HN:=hid hn;rw [hn] at hlen hcap ⊢;clear cP hrow hb1 hn
 go_wp2_with fail
 go_loopw [3,9] (fun ov iv wr=>∃ i m:Nat,iv=.int .i64 i∧i≤n∧m≤i∧Hid ((taken s (P.take i)).length=m)∧Hid (wr.ownsRow w1.heap.size 52 10 ov m (mY (taken s (P.take i))))∧Hid (Below w1.heap.size w1 wr)) (fun _ iv _=>n - (Go.RowKit.intOf iv).toNat)
 case atStart=>exact ⟨0,0,rfl,aL _,ae _,hid rfl,hid (dD _ _ _ _),hid (aj _ _)⟩
 case round =>
  obtain ⟨i,m,rfl,hi,hm,HM,HO,HB⟩:=hrel
  by_cases hlt:i<n
  ·have hll:i<P.length:=by rw [HN.out];exact hlt
   obtain ⟨g,off,rfl,_,hg,hc⟩:=HR.out.resolve_left (fun h=>by rw [h] at hll;exact bq _ hll);obtain ⟨p0,p1,p2,p3⟩:=M9 i hc hll;have hfe:=HF.out _ (bF hll);have e0:=HE.out;obtain ⟨f,hf⟩:∃ x,P[i].f=x:=⟨_,rfl⟩;obtain ⟨e,he⟩:∃ x,P[i].e=x:=⟨_,rfl⟩;obtain ⟨d,hd⟩:∃ x,P[i].d=x:=⟨_,rfl⟩;obtain ⟨j,hj⟩:∃ x,P[i].j=x:=⟨_,rfl⟩;rw [hf] at p0 hfe;rw [he] at p1 hfe;rw [hd] at p2;rw [hj] at p3;have q0:=(HB.out.cell (p:=⟨g,off+i*4,none⟩) hg).trans p0;have q1:=(HB.out.cell (p:=⟨g,off+i*4+1,none⟩) hg).trans p1;have q2:=(HB.out.cell (p:=⟨g,off+i*4+2,none⟩) hg).trans p2;have q3:=(HB.out.cell (p:=⟨g,off+i*4+3,none⟩) hg).trans p3;obtain ⟨w2,hw2,hq2,hb2,afg⟩:=ic wr (.cells #[.int .i64 f,.int .i64 e,.bool d,.bool j] 67)
   have k0:w2.cell? ⟨wr.heap.size,0,none⟩=some (.int .i64 f):=by simp [World.cell?,hq2]
   have k1:w2.cell? ⟨wr.heap.size,1,none⟩=some (.int .i64 e):=by simp [World.cell?,hq2]
   have k2:w2.cell? ⟨wr.heap.size,2,none⟩=some (.bool d):=by simp [World.cell?,hq2]
   have kf:∀ x,w2.frozen? ⟨wr.heap.size,x,none⟩=false:=fun x=>by simp [World.frozen?,hq2]
   have HB2:=hid (HB.out.trans (hb2.mono HB.out.size));have Bz:=hid hq2;have uo:=hid (aV HO.out hb2);have afh:f≤e:=hfe.2.1
   have hes:e≤s.size:=by rw [← e0];exact hfe.2.2
   obtain ⟨tx,htx⟩:∃ x,s.extract f e=x:=⟨_,rfl⟩;have HDC:Hid (LH s P[i]=OD f e tx):=hid (by unfold LH;rw [hf,he,htx]);have LK:=hid htx;clear hc p0 p1 p2 p3 hfe e0 hf he hj hq2 hb2 htx
   cases d with
   | false =>
    have HT2:=hid (FC s hll hd);clear hd
    go_wp2_with fail
    go_roundw
    case rel=>exact ⟨i+1,m,by go_num,by omega,by omega,hid (by rw [HT2.out];exact HM.out),hid (by rw [HT2.out];exact uo.out),HB2⟩
    case measure=>simp [Go.RowKit.intOf];omega
   | true =>
    have HT2:=hid ((JR s hll hd).trans (by rw [HDC.out]));obtain ⟨oa,oc,rfl⟩:=fD HO.out;clear hd
    go_upto_region 6 with fail
    refine aS (S:=fun X=>X.heap[wr.heap.size]?=some (.cells #[.int .i64 f,.int .i64 e,.bool true,.bool j] 67 (0,0))∧Below w1.heap.size w1 X) (by kernel_rfl) ⟨Bz.out,HB2.out.drew⟩ fun ag=>?_
    have nM:=hid (aV uo.out (aj w2.heap.size w2).drew);obtain ⟨V,hV⟩:∃ V,w2.drew=V:=⟨_,rfl⟩;rw [hV] at ag nM ⊢;clear hV k0 k1 k2 kf q0 q1 q2 q3;have HV:=hid ag;have hzV:wr.heap.size<V.heap.size:=(af.1 ag.1).1;refine OP.m 0 rfl (.slice oa m oc) ag ?_;simp only [OP.s];refine OP.m 1 rfl (.pointer (some ⟨wr.heap.size,0,none⟩)) ag ?_;simp only [OP.s];refine OP.t 2 rfl (.int .i64 f) (fun X hX=>by have h:=hX.1;have c0:X.cell? ⟨wr.heap.size,0,none⟩=some (.int .i64 f):=(by simp [World.cell?,h]);clear h;go_simp) ag ?_;simp only [OP.s];refine OP.m 3 rfl (.pointer (some ⟨wr.heap.size,1,none⟩)) ag ?_;simp only [OP.s];refine OP.t 4 rfl (.int .i64 e) (fun X hX=>by have h:=hX.1;have c0:X.cell? ⟨wr.heap.size,1,none⟩=some (.int .i64 e):=(by simp [World.cell?,h]);clear h;go_simp) ag ?_;simp only [OP.s];refine OP.m 5 rfl (.string s) ag ?_;simp only [OP.s];refine OP.m 6 rfl (.pointer (some ⟨wr.heap.size,0,none⟩)) ag ?_;simp only [OP.s];refine OP.t 7 rfl (.int .i64 f) (fun X hX=>by have h:=hX.1;have c0:X.cell? ⟨wr.heap.size,0,none⟩=some (.int .i64 f):=(by simp [World.cell?,h]);clear h;go_simp) ag ?_;simp only [OP.s];refine OP.m 8 rfl (.pointer (some ⟨wr.heap.size,1,none⟩)) ag ?_;simp only [OP.s];refine OP.t 9 rfl (.int .i64 e) (fun X hX=>by have h:=hX.1;have c0:X.cell? ⟨wr.heap.size,1,none⟩=some (.int .i64 e):=(by simp [World.cell?,h]);clear h;go_simp) ag ?_;simp only [OP.s];refine OP.t 10 rfl (.string tx) (fun X hX=>by have h:=LK.out;go_simp) ag ?_;simp only [OP.s]
    refine OP.t 11 rfl (.agg #[.int .i64 f,.int .i64 e,.string tx,.string ⟨#[]⟩,.string ⟨#[]⟩,.int .i64 0,.int .i64 0,.slice none 0 0,.int .i64 0,.int .i64 0]) (fun X hX=>by kernel_rfl) ag ?_;simp only [OP.s]
    refine OP.r 12 rfl fun K hK=>?_
    go_simp
    obtain ⟨X2,hX2,f2,b2,z2⟩:=ic V (.cells #[.int .i64 f,.int .i64 e,.string tx,.string ⟨#[]⟩,.string ⟨#[]⟩,.int .i64 0,.int .i64 0,.slice none 0 0,.int .i64 0,.int .i64 0] 52);rw [hX2];have hb2:=HV.out.2.trans (b2.mono HV.out.2.size);have hp2:=(b2.block _ hzV).trans HV.out.1;have xn:=hid (aV nM.out b2);obtain ⟨g2,hg2⟩:∃ g,V.heap.size=g:=⟨_,rfl⟩;rw [hg2] at f2 ⊢;clear hX2 b2 z2
    refine hK.out _ _ ⟨hp2,hb2⟩ fun ag=>?_
    try simp only [OP.s]
    clear hK K
    refine OP.r 13 rfl fun K hK=>?_
    refine eD _ (.tmp 15) (.tmp 27) 56 rfl w1.heap.size 52 iD (.agg #[.int .i64 0,.int .i64 0,.string ⟨#[]⟩,.string ⟨#[]⟩,.string ⟨#[]⟩,.int .i64 0,.int .i64 0,.slice none 0 0,.int .i64 0,.int .i64 0]) 10 120 Tryz.underlying56 hi0 hz0 hz1 hz2 rfl (by decide) (.slice oa m oc) m (mY (taken s (P.take i))) rfl xn.out ⟨g2,0,none⟩ 1 1 (mY [OD f e tx]) rfl (by rw [y9];rfl) (by
     rw [mY,mY,eB]
     exact dm (cs:=#[.int .i64 f,.int .i64 e,.string tx,.string ⟨#[]⟩,.string ⟨#[]⟩,.int .i64 0,.int .i64 0,.slice none 0 0,.int .i64 0,.int .i64 0]) f2) (by rw [mY,mY,eB];exact B5 _ _ rfl) (by decide) (by unfold maxLen;omega) (by omega) hb2.size _ rfl ?_
    intro g4 c4 X3 w3 aP hat hlt;have hb3:Below w1.heap.size w1 X3:=hb2.grown aP hb2.size (fun k hk=>(xn.out.lt k hk).1)
    have hp3:X3.heap[wr.heap.size]?=some (.cells #[.int .i64 f,.int .i64 e,.bool true,.bool j] 67 (0,0)):=(aP.block _ (af.1 hp2).1 (fun h=>by
     have h1:=dF xn.out (k:=wr.heap.size) h.symm;obtain ⟨cs,fr,h2⟩:=h1;rw [hp2] at h2
     cases h2)).trans hp2
    rw [← FB] at w3;have ZZ:Hid (X3.ownsRow w1.heap.size 52 10 (.slice (some ⟨g4,0,none⟩) (m+1) c4) (m+1) (mY (taken s (P.take (i+1))))):=hid (by rw [HT2.out];exact w3);have sN:=hid hb3
    refine hK.out _ _ ⟨hp3,hb3⟩ fun ag=>?_
    try simp only [OP.s]
    clear hK K;refine OP.m 14 rfl (.slice (some ⟨g4,0,none⟩) (m+1) c4) ag ?_;simp only [OP.s];refine bL (by kernel_rfl) ?_ _;clear ag w3 aP hat hlt hb3 hp3 hb2 hp2 f2
    go_wp2_with fail
    go_roundw
    case rel=>exact ⟨i+1,m+1,by go_num,by omega,by omega,hid (by rw [HT2.out,aM,HM.out];rfl),ZZ,sN⟩
    case measure=>simp [Go.RowKit.intOf];omega
  ·obtain rfl:i=n:=by omega
   go_wp2_with fail
   go_ret
   have hP:P.take i=P:=bX (by rw [HN.out];exact ae _);refine ⟨_,rfl,?_,HB1.out.trans (HB.out.mono HB1.out.size)⟩;have h:=HO.out;rw [hP,← HM.out,hP] at h
   exact jr h HB1.out.size
end Ud
namespace Ud
open Go.RowKit
open Go.Lib hiding intOf
open U S Q T J
open K (gB pO Nn)
structure St (H:Nat) (D:List ku) (j g cap:Nat) (W:World):Prop where
 ge:H≤g
 row:∃ cur:Array Value,W.heap[g]?=some (.cells cur 52 (0,0))∧cur.size=cap*10∧D.length≤cap ∧
  (∀ i (hi:i<D.length),i<j→∃ lv,(∀ q u,(xh D[i] lv)[q]?=some u→cur[i*10+q]?=some u)∧aT W (fun _=>True) D[i].p lv) ∧
  (∀ i (hi:i<D.length),j≤i→∀ q u,(xh (zer D[i]) (.slice none 0 0))[q]?=some u→cur[i*10+q]?=some u)
theorem St.lt {H:Nat} {D:List ku} {j g cap:Nat} {W:World} (h:St H D j g cap W):g<W.heap.size:=by
 obtain ⟨cur,h1,_⟩:=h.row
 exact (af.1 h1).1
theorem St.later {H:Nat} {D:List ku} {j g cap:Nat} {W W':World} (h:St H D j g cap W) (hb:Below W.heap.size W W'):St H D j g cap W':=by
 have hl:=h.lt;obtain ⟨ge,cur,h1,h2,h3,h4,h5⟩:=h;refine ⟨ge,cur,(hb.block _ hl).trans h1,h2,h3,fun i hi hij=>?_,h5⟩;obtain ⟨lv,e1,e2⟩:=h4 i hi hij
 exact ⟨lv,e1,dH e2 hb⟩
theorem gF {W:World} {g:Nat} {cur:Array Value} {t:TypeId} (h:W.heap[g]?=some (.cells cur t (0,0))) (o:Nat):W.cell? ⟨g,o,none⟩=cur[o]?:=by
 simp [World.cell?,h]
theorem WU (d:ku) (lv:Value):(xh d lv)[9]?=some (.int .i64 d.r):=by
 obtain ⟨f,e,tx,⟨k,t,pf,pe,ks⟩,x,r⟩:=d
 rfl
theorem Vz {cur:Array Value} {j o:Nat} {k t:By} {f e:Int} {lv:Value} (d:ku) (hz:∀ q u,(xh (zer d) (.slice none 0 0))[q]?=some u→cur[j*10+q]?=some u)
  (hp:0<j→∃ r:Int,cur[(j - 1)*10+9]?=some (.int .i64 r)) (hk:k≠[]) (h0:cur[o]?=some (.string (aU k))) (h1:cur[o+1]?=some (.string (aU t))) (h2:cur[o+2]?=some (.int .i64 f)) (_h3:cur[o+3]?=some (.int .i64 e)) (_h4:cur[o+4]?=some lv) :
  o+5≤j*10+3∨j*10+10≤o:=by
 by_cases hc:o+5≤j*10+3∨j*10+10≤o
 ·exact hc
 ·exfalso
  have z0:=hz 0 _ rfl;have z1:=hz 1 _ rfl;have z2:=hz 2 _ rfl;have z3:=hz 3 _ rfl;have z4:=hz 4 _ rfl;have z5:=hz 5 _ rfl;have z6:=hz 6 _ rfl;have z7:=hz 7 _ rfl;have z8:=hz 8 _ rfl;have z9:=hz 9 _ rfl
  have hcase:(0<j∧o=(j - 1)*10+9)∨o=j*10+0∨o=j*10+1∨o=j*10+2∨o=j*10+3∨o=j*10+4∨o=j*10+5∨o=j*10+6∨o=j*10+7∨o=j*10+8∨o=j*10+9:=by omega
  rcases hcase with ⟨hj,h⟩|h|h|h|h|h|h|h|h|h|h
  ·obtain ⟨r,hr⟩:=hp hj
   rw [h,hr] at h0;cases h0
  ·rw [h,z0] at h0;cases h0
  ·rw [h,z1] at h0;cases h0
  ·rw [h,show j*10+2+2=j*10+4 from rfl,z4] at h2;cases h2
  ·rw [h,z3] at h0
   have h0:=aY h0
   injection h0 with h0
   exact hk (Sj.1 h0.symm)
  ·rw [h,show j*10+4+1=j*10+5 from rfl,z5] at h1;cases h1
  ·rw [h,z5] at h0;cases h0
  ·rw [h,z6] at h0;cases h0
  ·rw [h,z7] at h0;cases h0
  ·rw [h,z8] at h0;cases h0
  ·rw [h,z9] at h0;cases h0
theorem St.put {H:Nat} {D:List ku} {j g cap:Nat} {W W':World} (h:St H D j g cap W) (hj:j<D.length) (hN:∀ d∈D,pO (sj d.p)) {lv:Value} (hk:aT W (fun _=>True) D[j].p lv) {cur cur':Array Value}
  (hc:W.heap[g]?=some (.cells cur 52 (0,0))) (hc':W'.heap[g]?=some (.cells cur' 52 (0,0))) (hsz:cur'.size=cur.size)
  (hset:∀ q u,3≤q→(xh D[j] lv)[q]?=some u→cur'[j*10+q]?=some u) (hkeep:∀ k,k<j*10+3∨j*10+10≤k→cur'[k]?=cur[k]?) (hoth:∀ b,b≠g→W'.heap[b]?=W.heap[b]?):St H D (j+1) g cap W':=by
 obtain ⟨ge,afj,h1,h2,h3,h4,h5⟩:=h;rw [hc] at h1
 cases h1
 have hX:∀ b o (k t:By) (f e:Int) (ks:List Pt) (lv:Value),k≠[]→dK W b o (five (.mk k t f e ks) lv)→dK W' b o (five (.mk k t f e ks) lv):=by
  intro b o k t f e ks lv hk hcl
  by_cases hb:b=g
  ·subst hb
   have c:∀ q,W.cell? ⟨b,o+q,none⟩=cur[o+q]?:=fun q=>gF hc (o+q)
   have Gs:=Vz _ (h5 j hj (ae _)) (fun hp=>by
    obtain ⟨Cu,e1,_⟩:=h4 (j - 1) (by omega) (by omega)
    exact ⟨_,e1 9 _ (WU _ _)⟩) hk ((c 0).symm.trans (hcl 0 _ rfl)) ((c 1).symm.trans (hcl 1 _ rfl)) ((c 2).symm.trans (hcl 2 _ rfl)) ((c 3).symm.trans (hcl 3 _ rfl)) ((c 4).symm.trans (hcl 4 _ rfl))
   intro q u hq;have xO:=(aN.1 hq).1;rw [eO] at xO;rw [gF hc',hkeep _ (by omega),← gF hc]
   exact hcl q u hq
  ·intro q u hq
   have:=hcl q u hq
   unfold World.cell? at this ⊢
   rw [hoth b hb]
   exact this
 refine ⟨ge,cur',hc',by rw [hsz];exact h2,h3,fun i hi hij=>?_,fun i hi hij q u hq=>?_⟩
 ·by_cases hi2:i<j
  ·obtain ⟨Cu,e1,e2⟩:=h4 i hi hi2
   refine ⟨Cu,fun q u hq=>?_,uA hX _ _ (hN _ (bF hi)) e2⟩;have tK:=(aN.1 hq).1;rw [gJ] at tK;rw [hkeep _ (by omega)]
   exact e1 q u hq
  ·obtain rfl:i=j:=by omega
   refine ⟨lv,fun q u hq=>?_,uA hX _ _ (hN _ (bF hi)) hk⟩
   by_cases hq3:3≤q
   ·exact hset q u hq3 hq
   ·rw [hkeep _ (by omega)]
    refine h5 i hi (ae _) q u ?_
    rcases q with _|_|_|q
    ·exact hq
    ·exact hq
    ·exact hq
    ·omega
 ·have tK:=(aN.1 hq).1
  rw [gJ] at tK;rw [hkeep _ (by omega)]
  exact h5 i hi (by omega) q u hq
def Bd (H:Nat) (W:World) (l:List ku) (v:Value):Prop :=
 ∃ a cap,v=.slice a l.length cap∧l.length≤cap∧(l=[]∨∃ g off,a=some ⟨g,off,none⟩∧g<H∧∀ i (hi:i<l.length),JK W (fun k=>k<H) g (off+i*10) l[i])
theorem Bd.later {H:Nat} {W W':World} {l:List ku} {v:Value} (h:Bd H W l v) (hb:Below H W W'):Bd H W' l v:=by
 obtain ⟨a,c,h1,h2,h3⟩:=h;refine ⟨a,c,h1,h2,h3.imp id ?_⟩;rintro ⟨g,off,e1,e2,e3⟩;refine ⟨g,off,e1,e2,fun i hi=>?_⟩;obtain ⟨lv,k1,k2⟩:=e3 i hi
 exact ⟨lv,fun q u hq=>(hb.cell (p:=⟨g,_,none⟩) e2).trans (k1 q u hq),aT.later (fun b hb' _=>hb.block b hb') (fun _ h=>h) _ _ k2⟩
theorem VA {W:World} {g o:Nat} {t:TypeId} {cur:Array Value} (v0 v1 v2 v3 v4 v5 v6:Value) (h:W.heap[g]?=some (.cells cur t (0,0))) (hs:o+7≤cur.size) :
  ∃ W' cur',((((((W.setCell ⟨g,o,none⟩ v0).setCell ⟨g,o+1,none⟩ v1).setCell ⟨g,o+2,none⟩ v2).setCell ⟨g,o+3,none⟩ v3).setCell ⟨g,o+4,none⟩ v4).setCell ⟨g,o+5,none⟩ v5).setCell ⟨g,o+6,none⟩ v6=W'∧W'.heap[g]?=some (.cells cur' t (0,0))∧cur'.size=cur.size ∧
   (∀ j u,[v0,v1,v2,v3,v4,v5,v6][j]?=some u→cur'[o+j]?=some u)∧(∀ j,j<o∨o+7≤j→cur'[j]?=cur[j]?)∧(∀ k,k≠g→W'.heap[k]?=W.heap[k]?)∧∀ B,B≤g→Below B W W':=by
 obtain ⟨W1,c1,e1,e2,e3,e4,e5,e6,e7⟩:=wT (o:=o) v0 v1 v2 v3 v4 h (by omega);have s5:=az e2 (i:=o+5) v5;have s6:=az s5 (i:=o+6) v6
 have b1:∀ B,B≤g→∀ (X:World) (j:Nat) (v:Value),Below B X (X.setCell ⟨g,j,none⟩ v):=fun B hB X j v=>⟨rfl,rfl,rfl,by simp,fun k hk=>ak _ _ _ _ (by show k≠g;omega)⟩
 refine ⟨_,_,rfl,by rw [e1];exact s6,by simp [e3],?_,?_,?_,fun B hB=>by rw [e1];exact ((e7 B hB).trans (b1 B hB _ _ _)).trans (b1 B hB _ _ _)⟩
 ·intro j u hj
  rcases j with _|_|_|_|_|_|_|j
  ·rw [aR,ai (by omega),aR,ai (by omega)];exact e4 0 u hj
  ·rw [aR,ai (by omega),aR,ai (by omega)];exact e4 1 u hj
  ·rw [aR,ai (by omega),aR,ai (by omega)];exact e4 2 u hj
  ·rw [aR,ai (by omega),aR,ai (by omega)];exact e4 3 u hj
  ·rw [aR,ai (by omega),aR,ai (by omega)];exact e4 4 u hj
  ·simp at hj;subst hj;simp [aR];omega
  ·simp at hj;subst hj;simp [aR];omega
  ·simp at hj
 ·intro j hj
  rw [aR,ai (by omega),aR,ai (by omega)]
  exact e5 j (by omega)
 ·intro k hk
  rw [e1]
  exact (ak _ _ _ _ hk).trans ((ak _ _ _ _ hk).trans (e6 k hk))
end Ud
namespace Ud
open Go.RowKit
open Go.Lib hiding intOf
open U S Q T J
open K (gB pO Nn qd kT rG JB)
theorem G4 (s:ByteArray) (w:World) (hs:s.size≤281474976710656):Calls Tryz.prog 53 #[.string s] w fun e w'=>e=.returned (.string s)∧Below w.heap.size w w':=by
 have c1:=Tryz.stringslite_Clone s w hs;clear hs
 go_enter Tryz.func53,Tryz.ntmps53
 go_wp2_with fail
 refine c1.mono ?_;rintro e w2 ⟨rfl,hb2⟩;have HB2:=hid hb2;clear c1 hb2
 go_wp2_with fail
 go_ret
 exact ⟨rfl,HB2.out⟩
theorem pg {W:World} {g:Nat} {cur:Array Value} {t:TypeId} (h:W.heap[g]?=some (.cells cur t (0,0))) (o:Nat):W.frozen? ⟨g,o,none⟩=false:=by
 simp [World.frozen?,h]
def Ei (g:Nat) (w W:World):Prop:=w.heap.size≤W.heap.size∧∀ k,k<w.heap.size→k≠g→W.heap[k]?=w.heap[k]?
theorem Ei.refl (g:Nat) (w:World):Ei g w w:=⟨ae _,fun _ _ _=>rfl⟩
theorem Ei.below {g:Nat} {w W W':World} (h:Ei g w W) (hb:Below W.heap.size W W'):Ei g w W':=⟨aJ h.1 hb.size,fun k hk hg=>(hb.block k (aD hk h.1)).trans (h.2 k hk hg)⟩
theorem Ei.step {g H:Nat} {w W W':World} (h:Ei g w W) (hs:Below H W W') (ho:∀ k,k≠g→W'.heap[k]?=W.heap[k]?):Ei g w W':=⟨aJ h.1 hs.size,fun k hk hg=>(ho k hg).trans (h.2 k hk hg)⟩
theorem Ei.trans {g:Nat} {w W W':World} (h:Ei g w W) (k:Ei g W W'):Ei g w W':=⟨aJ h.1 k.1,fun b hb hg=>(k.2 b (aD hb h.1) hg).trans (h.2 b hb hg)⟩
theorem St.cells {H:Nat} {D:List ku} {j g cap o:Nat} {W:World} (h:St H D j g cap W) (hj:j<D.length) (ho:j*10=o):∃ cur,W.heap[g]?=some (.cells cur 52 (0,0))∧o+10≤cur.size ∧
  (W.cell? ⟨g,o,none⟩=some (.int .i64 D[j].f)∧W.cell? ⟨g,o+1,none⟩=some (.int .i64 D[j].e)∧W.cell? ⟨g,o+2,none⟩=some (.string D[j].tx)∧W.cell? ⟨g,o+3,none⟩=some (.string ⟨#[]⟩)∧W.cell? ⟨g,o+3+1,none⟩=some (.string ⟨#[]⟩)∧W.cell? ⟨g,o+3+2,none⟩=some (.int .i64 0)∧W.cell? ⟨g,o+3+3,none⟩=some (.int .i64 0)∧W.cell? ⟨g,o+3+4,none⟩=some (.slice none 0 0)∧W.cell? ⟨g,o+8,none⟩=some (.int .i64 0)∧W.cell? ⟨g,o+9,none⟩=some (.int .i64 0))∧∀ x,W.frozen? ⟨g,x,none⟩=false:=by
 obtain ⟨_,cur,h1,h2,h3,_,h5⟩:=h;have hz:=h5 j hj (ae _);rw [ho] at hz
 have c:=fun q=>gF h1 q
 refine ⟨cur,h1,?_,⟨(c _).trans (hz 0 _ rfl),(c _).trans (hz 1 _ rfl),(c _).trans (hz 2 _ rfl),(c _).trans (hz 3 _ rfl),(c _).trans (hz 4 _ rfl),(c _).trans (hz 5 _ rfl),(c _).trans (hz 6 _ rfl),(c _).trans (hz 7 _ rfl),(c _).trans (hz 8 _ rfl),(c _).trans (hz 9 _ rfl)⟩,pg h1⟩;rw [h2]
 omega
theorem St.done {H:Nat} {D:List ku} {j g cap o:Nat} {W:World} (h:St H D j g cap W) (hj:j<D.length) (ho:j*10=o) (hN:∀ d∈D,pO (sj d.p)) {k t:By} {f e x r:Int} {ks:List Pt} {a:Option Addr} {c n:Nat} {kb tb:ByteArray} (hd:D[j].p=.mk k t f e ks∧D[j].a=x∧D[j].r=r) (hk:aT W (fun _=>True) (.mk k t f e ks) (.slice a n c)) (hkb:aU k=kb) (htb:aU t=tb) :
  ∃ W',((((((W.setCell ⟨g,o+3,none⟩ (.string kb)).setCell ⟨g,o+3+1,none⟩ (.string tb)).setCell ⟨g,o+3+2,none⟩ (.int .i64 f)).setCell ⟨g,o+3+3,none⟩ (.int .i64 e)).setCell ⟨g,o+3+4,none⟩ (.slice a n c)).setCell ⟨g,o+8,none⟩ (.int .i64 x)).setCell ⟨g,o+9,none⟩ (.int .i64 r)=W'∧St H D (j+1) g cap W'∧Below H W W'∧∀ b,b≠g→W'.heap[b]?=W.heap[b]?:=by
 obtain ⟨cur,h1,h2,_,_⟩:=h.cells hj ho;obtain ⟨W',cur',e1,e2,e3,e4,e5,e6,e7⟩:=VA (o:=o+3) (.string kb) (.string tb) (.int .i64 f) (.int .i64 e) (.slice a n c) (.int .i64 x) (.int .i64 r) h1 (by omega);refine ⟨W',e1,h.put hj hN (lv:=.slice a n c) (by rw [hd.1];exact hk) h1 e2 e3 ?_ (fun q hq=>e5 q (by omega)) e6,e7 H h.ge,e6⟩;intro q u hq hu;have tK:=(aN.1 hu).1;rw [gJ] at tK;rw [show j*10+q=o+3+(q - 3) by omega];refine e4 (q - 3) u ?_
 unfold xh at hu
 rw [hd.1,hd.2.1,hd.2.2,five,hkb,htb] at hu;obtain ⟨q',rfl⟩:∃ z,q=z+3:=⟨q - 3,by omega⟩;rw [gy]
 exact hu
theorem Dy (w0 w:World) (D:List ku) (h m g cap cl:Nat) (hS:St w0.heap.size D h g cap w) (hm:h+m≤D.length) (hlen:D.length≤1000000) (hN:∀ d∈D,pO (sj d.p)) (hD:∀ d∈D,declT d.tx=(d.p,d.a,d.r)∧d.tx.size≤600)
  (hT:qI w0) (hG:qd w0) (hb:Below w0.heap.size w0 w) :
  Calls Tryz.prog 36 #[.slice (some ⟨g,h*10,none⟩) m cl] w fun e w'=>e=.returned (.tuple #[])∧St w0.heap.size D (h+m) g cap w'∧Below w0.heap.size w0 w'∧Ei g w w':=by
 have HS:=hid hS;have HN:=hid hN;have HD:=hid hD;have HT:=hid hT;have HG:=hid hG;have HB:=hid hb;clear hS hN hD hT hG hb
 go_enter Tryz.func36,Tryz.ntmps36
 go_wp2_with fail
 go_loopw [6] (fun iv wr=>∃ i:Nat,iv=.int .i64 i∧i≤m∧Hid (St w0.heap.size D (h+i) g cap wr)∧Hid (Below w0.heap.size w0 wr)∧Hid (Ei g w wr)) (fun iv _=>m - (Go.RowKit.intOf iv).toNat)
 case atStart=>exact ⟨0,rfl,aL _,HS,HB,hid (Ei.refl g w)⟩
 case round =>
  obtain ⟨i,rfl,hi,PX,FD,HOr⟩:=hrel;clear HS HB
  by_cases hlt:i<m
  ·have hj:h+i<D.length:=by omega
   obtain ⟨cur,_,_,⟨c0,c1,c2,c3,c4,c5,c6,c7,c8,c9⟩,cf⟩:=PX.out.cells hj (o:=h*10+i*10) (by omega);have hd:=HD.out _ (bF hj);obtain ⟨tx,htx⟩:∃ t,D[h+i].tx=t:=⟨_,rfl⟩;rw [htx] at c2 hd;have cC:=G4 tx wr (by omega);have HDD:=hid hd;clear htx c0 c1 c3 c4 c5 c6 c7 c8 c9 cf
   go_wp2_with fail
   refine cC.mono ?_;rintro e w2 ⟨rfl,hb2⟩;have HS2:=hid (PX.out.later hb2);have HB2:=hid (FD.out.trans (hb2.mono FD.out.size));have uo:=hid (HOr.out.below hb2);have cD:=JB tx w2 hd.2 (HT.out.later HB2.out) (HG.out.later HB2.out);clear cC hb2 c2 hd
   go_wp2_with fail
   refine cD.mono ?_;rintro e w3 ⟨p,x,r,lv,hp,rfl,hk,hb3,hwt⟩;have hp2:=HDD.out.1.symm.trans hp;have Km:=hid (HS2.out.later hb3);have HB3:=hid (HB2.out.trans (hb3.mono HB2.out.size));have nM:=hid (uo.out.below hb3);obtain ⟨k,t,f,e,ks⟩:=p;obtain ⟨a,c,rfl⟩:=eF hk;obtain ⟨_,_,_,⟨c0,c1,c2,c3,c4,c5,c6,c7,c8,c9⟩,cf⟩:=Km.out.cells hj (o:=h*10+i*10) (by omega);obtain ⟨kb,hkb⟩:∃ z,aU k=z:=⟨_,rfl⟩;obtain ⟨tb,htb⟩:∃ z,aU t=z:=⟨_,rfl⟩;obtain ⟨n,hn⟩:∃ z,ks.length=z:=⟨_,rfl⟩;rw [hn] at hk;obtain ⟨W',wZ,Ep,hb4,WV⟩:=Km.out.done hj (o:=h*10+i*10) (by omega) HN.out (x:=x) (r:=r) ⟨congrArg Prod.fst hp2,congrArg (fun z=>z.2.1) hp2,congrArg (fun z=>z.2.2) hp2⟩ hk hkb htb;simp only [arg,five];rw [hkb,htb,hn];have XY:=hid Ep;have uR:=hid (HB3.out.trans hb4);have xn:=hid (nM.out.step hb4 WV);clear cD hb3 hp hp2 hk hwt hkb htb hn Ep hb4 WV c0 c1 c2
   go_wp2_with fail
   go_roundw
   case rel=>exact ⟨i+1,by go_num,by omega,XY,uR,xn⟩
   case measure=>simp [Go.RowKit.intOf];omega
  ·obtain rfl:i=m:=by omega
   go_wp2_with fail
   exact fZ (aI rfl _ _ _) rfl ⟨rfl,PX.out,FD.out,HOr.out⟩
end Ud
namespace Ud
open Go.RowKit
open Go.Lib hiding intOf
open U S Q T J
def SpC (p:Pt):Prop:=∀ (lv Cu:Value) (R R':Nat→Prop) (w:World),aT w R p lv→aT w R' p Cu→rT p≤1099511627776 →
 Calls Tryz.prog 49 #[arg p lv,arg p Cu] w fun e w'=>e=.returned (.bool true)∧Below w.heap.size w w'
theorem VB (k t:By) (f e:Int) (ks:List Pt) (IH:∀ p∈ks,SpC p) (R R':Nat→Prop) (w:World) (a a':Option Addr) (c c':Nat) (hv:aT w R (.mk k t f e ks) (.slice a ks.length c)) (hv':aT w R' (.mk k t f e ks) (.slice a' ks.length c')) (hw:oF ks≤1099511627776) :
  Calls Tryz.prog 74 #[.slice a ks.length c,.slice a' ks.length c',.func (.func 49) #[] #[]] w fun e w'=>e=.returned (.bool true)∧Below w.heap.size w w':=by
 obtain ⟨_,_,hrow⟩:=mU hv;obtain ⟨_,_,hrow'⟩:=mU hv';have HR:=hid hrow;have Sl:=hid hrow';have Sm:=hid IH;have hlb:ks.length≤1099511627776:=aJ (kX ks) hw;have PW:=hid (fun v (h:v∈ks)=>aJ (wQ h) hw)
 have he:∀ args X,(callFunc 49 args).run Tryz.prog X=.ok (.enter 49 args) X:=fun _ _=>by kernel_rfl
 obtain ⟨n,hn⟩:∃ n,ks.length=n:=⟨_,rfl⟩;have HN:=hid hn;rw [hn] at hlb ⊢;clear hv hv' hrow hrow' IH hw hn
 go_enter Tryz.func74,Tryz.ntmps74
 go_wp2_with fail
 go_loopw [17] (fun iv wr=>∃ i:Nat,iv=.int .i64 i∧i≤n∧Hid (Below w.heap.size w wr)) (fun iv _=>n - (Go.RowKit.intOf iv).toNat)
 case atStart=>exact ⟨0,rfl,aL _,hid (aj _ _)⟩
 case round =>
  obtain ⟨i,rfl,hi,HB⟩:=hrel
  by_cases hlt:i<n
  ·have hll:i<ks.length:=by rw [HN.out];exact hlt
   obtain ⟨g,off,xs,rfl,hg,hc,hp⟩:=HR.out.resolve_left (fun h=>by rw [h] at hll;exact bq _ hll);obtain ⟨g',off',xs',rfl,hg',hc',hp'⟩:=Sl.out.resolve_left (fun h=>by rw [h] at hll;exact bq _ hll);obtain ⟨kk,tt,ff,ee,Im,aa,cc,hK⟩:=Af hp hc i hll;obtain ⟨kk',tt',ZV,ZW,YG,Io,Ip,hK'⟩:=Af hp' hc' i hll;have heq:=hK.eq.symm.trans hK'.eq
   cases heq
   have hK:=hK.below HB.out;have hK':=hK'.below HB.out
   have cP:=fun X (hX:Below wr.heap.size wr X)=>(Sm.out ks[i] (bF hll)) (.slice aa Im.length cc) (.slice Io Im.length Ip) R R' X (by rw [hK.eq];exact dH hK.kids hX) (by rw [hK.eq];exact dH hK'.kids hX) (PW.out _ (bF hll))
   simp only [hK.eq,arg,five] at cP;have j0:=hK.k0;have j1:=hK.k1;have j2:=hK.k2;have j3:=hK.k3;have j4:=hK.k4
   have m:=fun (X:World) (hX:Below wr.heap.size wr X)=>(hK'.below hX)
   have HM:=hid m;obtain ⟨y0,hy0⟩:∃ x,aU kk=x:=⟨_,rfl⟩;obtain ⟨y1,hy1⟩:∃ x,aU tt=x:=⟨_,rfl⟩;obtain ⟨z0,hz0⟩:∃ x,Im.length=x:=⟨_,rfl⟩
   have kG:Hid (∀ X,Below wr.heap.size wr X→X.cell? ⟨g',off'+i*5,none⟩=some (.string y0)∧X.cell? ⟨g',off'+i*5+1,none⟩=some (.string y1)∧X.cell? ⟨g',off'+i*5+2,none⟩=some (.int .i64 ff)∧X.cell? ⟨g',off'+i*5+3,none⟩=some (.int .i64 ee)∧X.cell? ⟨g',off'+i*5+4,none⟩=some (.slice Io z0 Ip)):=hid (fun X hX=>by
    have h:=hK'.below hX;rw [← hy0,← hy1,← hz0]
    exact ⟨h.k0,h.k1,h.k2,h.k3,h.k4⟩)
   rw [hy0] at j0 cP;rw [hy1] at j1 cP;rw [hz0] at j4 cP;have wI:=(aj wr.heap.size wr).alloc (ae _) (.cells #[.string y0,.string y1,.int .i64 ff,.int .i64 ee,.slice aa z0 cc] 49);obtain ⟨n0,n1,n2,n3,n4⟩:=kG.out _ wI;obtain ⟨w1,hw1,hq1,hr1,Ai,hz1⟩:=qK wr (.cells #[.string y0,.string y1,.int .i64 ff,.int .i64 ee,.slice aa z0 cc] 49) (.cells #[.string y0,.string y1,.int .i64 ff,.int .i64 ee,.slice Io z0 Ip] 49);obtain ⟨⟨k0,k1,k2,k3,k4⟩,kf⟩:=cr hq1;obtain ⟨⟨l0,l1,l2,l3,l4⟩,lf⟩:=cr hr1;have c1:=cP w1 Ai;have HB1:=hid (HB.out.trans (Ai.mono HB.out.size));clear hK hK' hp hp' hc hc' m cP wI hq1 hr1 Ai hz1 hy0 hy1 hz0 HM kG
   go_wp2_with fail
   refine c1.mono ?_;rintro e w2 ⟨rfl,hb2⟩;have HB2:=hid (HB1.out.trans (hb2.mono HB1.out.size));clear c1 hb2 n0 n1 n2 n3 n4 j0 j1 j2 j3 j4 k0 k1 k2 k3 k4 l0 l1 l2 l3 l4 kf lf
   go_wp2_with fail
   go_roundw
   case rel=>exact ⟨i+1,by go_num,by omega,HB2⟩
   case measure=>simp [Go.RowKit.intOf];omega
  ·obtain rfl:i=n:=by omega
   go_wp2_with fail
   go_ret
   exact ⟨rfl,HB.out⟩
theorem G5:∀ p,SpC p:=Pt.ind fun k t f e ks IH lv Cu R R' w hv hv' hw=>by
 obtain ⟨a,c,rfl⟩:=eF hv;obtain ⟨a',c',rfl⟩:=eF hv';rw [rT] at hw
 have cQ:=fun X (hX:Below w.heap.size w X)=>VB k t f e ks IH R R' X a a' c c' (dH hv hX) (dH hv' hX) (by omega)
 simp only [arg,five];obtain ⟨kb,hkb⟩:∃ x,aU k=x:=⟨_,rfl⟩;obtain ⟨tb,htb⟩:∃ x,aU t=x:=⟨_,rfl⟩;obtain ⟨n,hn⟩:∃ n,ks.length=n:=⟨_,rfl⟩;rw [hn] at cQ;rw [hkb,htb,hn];clear hv hv' hw IH hkb htb hn;obtain ⟨w1,hw1,hq1,hr1,hb1,hz1⟩:=qK w (.cells #[.string kb,.string tb,.int .i64 f,.int .i64 e,.slice a n c] 49) (.cells #[.string kb,.string tb,.int .i64 f,.int .i64 e,.slice a' n c'] 49);obtain ⟨⟨k0,k1,k2,k3,k4⟩,kf⟩:=cr hq1;obtain ⟨⟨l0,l1,l2,l3,l4⟩,lf⟩:=cr hr1;have c1:=cQ w1 hb1;have HB:=hid hb1
 have e1:(kb.toList==kb.toList)=true:=by simp
 have e2:(tb.toList==tb.toList)=true:=by simp
 have e3:(f==f)=true:=by simp
 have e4:(e==e)=true:=by simp
 clear hq1 hr1 hb1 hz1 cQ
 go_enter Tryz.func49,Tryz.ntmps49
 go_wp2_with fail
 refine c1.mono ?_;rintro e w2 ⟨rfl,hb2⟩;have HB2:=hid (HB.out.trans (hb2.mono HB.out.size));clear c1 hb2 k0 k1 k2 k3 k4 l0 l1 l2 l3 l4 kf lf
 go_wp2_with fail
 go_ret
 exact ⟨rfl,HB2.out⟩
def dcV (d:ku) (lv:Value):Value:=.agg (xh d lv).toArray
theorem nN {W:World} {b:Nat} {v0 v1 v2 v3 v4 v5 v6 v7 v8 v9:Value} {t:TypeId} (h:W.heap[b]?=some (.cells #[v0,v1,v2,v3,v4,v5,v6,v7,v8,v9] t (0,0))) :
  (W.cell? ⟨b,0,none⟩=some v0∧W.cell? ⟨b,1,none⟩=some v1∧W.cell? ⟨b,2,none⟩=some v2∧W.cell? ⟨b,3,none⟩=some v3∧W.cell? ⟨b,4,none⟩=some v4∧W.cell? ⟨b,5,none⟩=some v5∧W.cell? ⟨b,6,none⟩=some v6∧W.cell? ⟨b,7,none⟩=some v7∧W.cell? ⟨b,8,none⟩=some v8∧W.cell? ⟨b,9,none⟩=some v9)∧∀ j,W.frozen? ⟨b,j,none⟩=false :=
 ⟨⟨by simp [World.cell?,h],by simp [World.cell?,h],by simp [World.cell?,h],by simp [World.cell?,h],by simp [World.cell?,h],by simp [World.cell?,h],by simp [World.cell?,h],by simp [World.cell?,h],by simp [World.cell?,h],by simp [World.cell?,h]⟩,fun j=>by simp [World.frozen?,h]⟩
theorem G6 (d:ku) (lv Cu:Value) (R R':Nat→Prop) (w:World) (hv:aT w R d.p lv) (hv':aT w R' d.p Cu) (hw:rT d.p≤1099511627776) :
  Calls Tryz.prog 29 #[dcV d lv,dcV d Cu] w fun e w'=>e=.returned (.bool true)∧Below w.heap.size w w':=by
 obtain ⟨df,de,tx,⟨k,t,f,e,ks⟩,x,r⟩:=d;obtain ⟨a,c,rfl⟩:=eF hv;obtain ⟨a',c',rfl⟩:=eF hv'
 have cQ:=fun X (hX:Below w.heap.size w X)=>G5 _ _ _ R R' X (dH hv hX) (dH hv' hX) hw
 simp only [dcV,xh,arg,five] at cQ ⊢;obtain ⟨kb,hkb⟩:∃ x,aU k=x:=⟨_,rfl⟩;obtain ⟨tb,htb⟩:∃ x,aU t=x:=⟨_,rfl⟩;obtain ⟨n,hn⟩:∃ n,ks.length=n:=⟨_,rfl⟩;rw [hkb,htb,hn] at cQ ⊢;clear hv hv' hw hkb htb hn;obtain ⟨w1,hw1,hq1,hr1,hb1,hz1⟩:=qK w (.cells #[.int .i64 df,.int .i64 de,.string tx,.string kb,.string tb,.int .i64 f,.int .i64 e,.slice a n c,.int .i64 x,.int .i64 r] 52) (.cells #[.int .i64 df,.int .i64 de,.string tx,.string kb,.string tb,.int .i64 f,.int .i64 e,.slice a' n c',.int .i64 x,.int .i64 r] 52);obtain ⟨⟨k0,k1,k2,k3,k4,k5,k6,k7,k8,k9⟩,kf⟩:=nN hq1;obtain ⟨⟨l0,l1,l2,l3,l4,l5,l6,l7,l8,l9⟩,lf⟩:=nN hr1;have c1:=cQ w1 hb1;have HB:=hid hb1
 have e1:(tx.toList==tx.toList)=true:=by simp
 have e3:(x==x)=true:=by simp
 have e4:(r==r)=true:=by simp
 have e5:((df:Int)==(df:Int))=true:=by simp
 have e6:((de:Int)==(de:Int))=true:=by simp
 clear hq1 hr1 hb1 hz1 cQ
 go_enter Tryz.func29,Tryz.ntmps29
 go_wp2_with fail
 refine c1.mono ?_;rintro e w2 ⟨rfl,hb2⟩;have HB2:=hid (HB.out.trans (hb2.mono HB.out.size));clear c1 hb2 k0 k1 k2 k3 k4 k5 k6 k7 k8 k9 l0 l1 l2 l3 l4 l5 l6 l7 l8 l9 kf lf
 go_wp2_with fail
 go_ret
 exact ⟨rfl,HB2.out⟩
theorem VC (l:List ku) (B B':Nat) (R R':Nat→Prop) (w:World) (v v':Value) (hv:jc B R w l v) (hv':jc B' R' w l v') (hw:∀ d∈l,rT d.p≤1099511627776) (hlb:l.length≤1099511627776) :
  Calls Tryz.prog 28 #[v,v',.func (.func 29) #[] #[]] w fun e w'=>e=.returned (.bool true)∧Below w.heap.size w w':=by
 obtain ⟨a,c,rfl⟩:=lY hv;obtain ⟨a',c',rfl⟩:=lY hv';obtain ⟨_,_,hrow⟩:=uy hv;obtain ⟨_,_,hrow'⟩:=uy hv';have HR:=hid hrow;have Sl:=hid hrow';have PW:=hid hw
 have he:∀ args X,(callFunc 29 args).run Tryz.prog X=.ok (.enter 29 args) X:=fun _ _=>by kernel_rfl
 obtain ⟨n,hn⟩:∃ n,l.length=n:=⟨_,rfl⟩;have HN:=hid hn;rw [hn] at hlb ⊢;clear hv hv' hrow hrow' hw hn
 go_enter Tryz.func28,Tryz.ntmps28
 go_wp2_with fail
 go_loopw [17] (fun iv wr=>∃ i:Nat,iv=.int .i64 i∧i≤n∧Hid (Below w.heap.size w wr)) (fun iv _=>n - (Go.RowKit.intOf iv).toNat)
 case atStart=>exact ⟨0,rfl,aL _,hid (aj _ _)⟩
 case round =>
  obtain ⟨i,rfl,hi,HB⟩:=hrel
  by_cases hlt:i<n
  ·have hll:i<l.length:=by rw [HN.out];exact hlt
   obtain ⟨g,off,rfl,_,hg,hc⟩:=HR.out.resolve_left (fun h=>by rw [h] at hll;exact bq _ hll);obtain ⟨g',off',rfl,_,hg',hc'⟩:=Sl.out.resolve_left (fun h=>by rw [h] at hll;exact bq _ hll);obtain ⟨f,e,tx,k,t,pf,pe,ks,aa,cc,x,r,hK⟩:=Ba (hc i hll);obtain ⟨f',e',tx',k',t',pf',pe',ks',Io,Ip,x',r',hK'⟩:=Ba (hc' i hll);have heq:=hK.eq.symm.trans hK'.eq;simp only [ku.mk.injEq,Pt.mk.injEq] at heq;obtain ⟨rfl,rfl,rfl,⟨rfl,rfl,rfl,rfl,rfl⟩,rfl,rfl⟩:=heq;have hK:=hK.below HB.out;have hK':=hK'.below HB.out
   have cP:=fun X (hX:Below wr.heap.size wr X)=>G6 l[i] (.slice aa ks.length cc) (.slice Io ks.length Ip) R R' X (by rw [hK.eq];exact dH hK.kids hX) (by rw [hK.eq];exact dH hK'.kids hX) (PW.out _ (bF hll))
   simp only [hK.eq,dcV,xh,five] at cP;obtain ⟨y0,hy0⟩:∃ x,aU k=x:=⟨_,rfl⟩;obtain ⟨y1,hy1⟩:∃ x,aU t=x:=⟨_,rfl⟩;obtain ⟨z0,hz0⟩:∃ x,ks.length=x:=⟨_,rfl⟩
   have kG:Hid (∀ X,Below wr.heap.size wr X→X.cell? ⟨g',off'+i*10,none⟩=some (.int .i64 f)∧X.cell? ⟨g',off'+i*10+1,none⟩=some (.int .i64 e)∧X.cell? ⟨g',off'+i*10+2,none⟩=some (.string tx)∧X.cell? ⟨g',off'+i*10+3,none⟩=some (.string y0)∧X.cell? ⟨g',off'+i*10+4,none⟩=some (.string y1)∧X.cell? ⟨g',off'+i*10+5,none⟩=some (.int .i64 pf)∧X.cell? ⟨g',off'+i*10+6,none⟩=some (.int .i64 pe)∧X.cell? ⟨g',off'+i*10+7,none⟩=some (.slice Io z0 Ip)∧X.cell? ⟨g',off'+i*10+8,none⟩=some (.int .i64 x)∧X.cell? ⟨g',off'+i*10+9,none⟩=some (.int .i64 r)):=hid (fun X hX=>by
    have h:=hK'.below hX;rw [← hy0,← hy1,← hz0]
    exact ⟨h.c0,h.c1,h.c2,h.c3,h.c4,h.c5,h.c6,h.c7,h.c8,h.c9⟩)
   have dP:Hid (∀ X,Below wr.heap.size wr X→X.cell? ⟨g,off+i*10,none⟩=some (.int .i64 f)∧X.cell? ⟨g,off+i*10+1,none⟩=some (.int .i64 e)∧X.cell? ⟨g,off+i*10+2,none⟩=some (.string tx)∧X.cell? ⟨g,off+i*10+3,none⟩=some (.string y0)∧X.cell? ⟨g,off+i*10+4,none⟩=some (.string y1)∧X.cell? ⟨g,off+i*10+5,none⟩=some (.int .i64 pf)∧X.cell? ⟨g,off+i*10+6,none⟩=some (.int .i64 pe)∧X.cell? ⟨g,off+i*10+7,none⟩=some (.slice aa z0 cc)∧X.cell? ⟨g,off+i*10+8,none⟩=some (.int .i64 x)∧X.cell? ⟨g,off+i*10+9,none⟩=some (.int .i64 r)):=hid (fun X hX=>by
    have h:=hK.below hX;rw [← hy0,← hy1,← hz0]
    exact ⟨h.c0,h.c1,h.c2,h.c3,h.c4,h.c5,h.c6,h.c7,h.c8,h.c9⟩)
   obtain ⟨j0,j1,j2,j3,j4,j5,j6,j7,j8,j9⟩:=dP.out _ (aj _ _);rw [hy0,hy1,hz0] at cP;have wI:=(aj wr.heap.size wr).alloc (ae _) (.cells #[.int .i64 f,.int .i64 e,.string tx,.string y0,.string y1,.int .i64 pf,.int .i64 pe,.slice aa z0 cc,.int .i64 x,.int .i64 r] 52);obtain ⟨n0,n1,n2,n3,n4,n5,n6,n7,n8,n9⟩:=kG.out _ wI;obtain ⟨w1,hw1,hq1,hr1,Ai,hz1⟩:=qK wr (.cells #[.int .i64 f,.int .i64 e,.string tx,.string y0,.string y1,.int .i64 pf,.int .i64 pe,.slice aa z0 cc,.int .i64 x,.int .i64 r] 52) (.cells #[.int .i64 f,.int .i64 e,.string tx,.string y0,.string y1,.int .i64 pf,.int .i64 pe,.slice Io z0 Ip,.int .i64 x,.int .i64 r] 52);obtain ⟨⟨k0,k1,k2,k3,k4,k5,k6,k7,k8,k9⟩,kf⟩:=nN hq1;obtain ⟨⟨l0,l1,l2,l3,l4,l5,l6,l7,l8,l9⟩,lf⟩:=nN hr1;have c1:=cP w1 Ai;have HB1:=hid (HB.out.trans (Ai.mono HB.out.size));clear hK hK' hc hc' cP wI hq1 hr1 Ai hz1 hy0 hy1 hz0 dP kG
   go_wp2_with fail
   refine c1.mono ?_;rintro e w2 ⟨rfl,hb2⟩;have HB2:=hid (HB1.out.trans (hb2.mono HB1.out.size));clear c1 hb2 n0 n1 n2 n3 n4 n5 n6 n7 n8 n9 j0 j1 j2 j3 j4 j5 j6 j7 j8 j9 k0 k1 k2 k3 k4 k5 k6 k7 k8 k9 l0 l1 l2 l3 l4 l5 l6 l7 l8 l9 kf lf
   go_wp2_with fail
   go_roundw
   case rel=>exact ⟨i+1,by go_num,by omega,HB2⟩
   case measure=>simp [Go.RowKit.intOf];omega
  ·obtain rfl:i=n:=by omega
   go_wp2_with fail
   go_ret
   exact ⟨rfl,HB.out⟩
theorem za (l:List ku) (B B':Nat) (R R':Nat→Prop) (w:World) (v v':Value) (hv:jc B R w l v) (hv':jc B' R' w l v') (hw:∀ d∈l,rT d.p≤1099511627776) (hlb:l.length≤1099511627776) :
  Calls Tryz.prog 20 #[v,v'] w fun e w'=>e=.returned (.bool true)∧Below w.heap.size w w':=by
 have c1:=VC l B B' R R' w v v' hv hv' hw hlb;clear hv hv' hw
 go_enter Tryz.func20,Tryz.ntmps20
 go_wp2_with fail
 refine c1.mono ?_;rintro e w2 ⟨rfl,hb2⟩;have HB2:=hid hb2;clear c1 hb2
 go_wp2_with fail
 go_ret
 exact ⟨rfl,HB2.out⟩
end Ud
end Go.Proofs.YtojoahlpgmnbnaaGreatDoor
