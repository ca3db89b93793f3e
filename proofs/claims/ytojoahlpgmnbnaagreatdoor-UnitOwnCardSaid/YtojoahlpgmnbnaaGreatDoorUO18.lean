/- What the claim needs of the texts TRd2, TRd3, TPart, TFwd, TTyped, TSmall, TStr, TFwd2, TLive. -/
import Derived.Test.YtojoahlpgmnbnaaGreatDoorUOOp
import Derived.Test.YtojoahlpgmnbnaaGreatDoorUO17
import Derived.Test.YtojoahlpgmnbnaaGreatDoorUO2
set_option maxRecDepth 20000
set_option maxHeartbeats 16000000
namespace Go.Proofs.YtojoahlpgmnbnaaGreatDoor
namespace T
open Go.RowKit
open Go.Lib hiding intOf
open U S L
def Out.at {α:Type}:Out α→Nat
 | .ok _ i=>i
 | .bad i=>i
def Out.aA {α:Type}:Out α→Bool
 | .ok _ _=>false
 | .bad _=>true
def start {α:Type} (b:Bool) (i:Nat) (o:Out α):Out α:=if b then .bad i else o
def kz (d:Nat) (lv:Value) (i:Nat) (b:Bool) (w w':World):Prop:=Rd d lv i b w'∧Mv w.heap.size d w w'
theorem Idle.went {R:Value} {d:Nat} {lv:Value} {i:Nat} {b:Bool} {w w':World} {e:Ending} (h:Idle R w e w') (hR:Rd d lv i b w):e=.returned R∧kz d lv i b w w':=by
 obtain ⟨h1,k,rfl⟩:=h
 exact ⟨h1,hR.drewN k,(Mv.refl _ _ _).drewN k⟩
theorem pF (d:Nat) (L:List aZ) (lv:Value) (i:Nat) (b:Bool) (x:Int) (w:World) (hR:Rd d lv i b w) (hT:Tk d L lv w) :
  Calls Tryz.prog 68 #[.pointer (some ⟨d,0,none⟩),.int .i64 x] w (Idle (.bool (!b&&bT L x i)) w):=by
 have c0:=hR.c0;have c1:=hR.c1;have c2:=hR.c2;obtain ⟨R,hR2⟩:∃ R,(!b&&bT L x i)=R:=⟨_,rfl⟩;rw [hR2]
 cases b
 ·by_cases hi:i<L.length
  ·obtain ⟨g,off,cap,rfl,hgd,k0,_,_,_⟩:=lI hT hi
   rw [tN x hi,Bool.not_false,Bool.true_and] at hR2;generalize L[i]=t at k0 hR2;obtain ⟨tw,tt,tf,te⟩:=t;dsimp only at k0 hR2;obtain ⟨n,hn⟩:∃ n,L.length=n:=⟨_,rfl⟩;rw [hn] at hi c0;clear hR hT hn
   cases R
   ·go_enter Tryz.func68,Tryz.ntmps68
    go_upto_region 1 with fail
    go_quiet (fail)
    go_wp2_with fail
    go_ret
    exact ⟨rfl,_,rfl⟩
   ·go_enter Tryz.func68,Tryz.ntmps68
    go_upto_region 1 with fail
    go_quiet (fail)
    go_wp2_with fail
    go_ret
    exact ⟨rfl,_,rfl⟩
  ·obtain ⟨la,cap,rfl,_⟩:=hT
   have hF:R=false:=by rw [← hR2,rO x hi];rfl
   subst hF;obtain ⟨n,hn⟩:∃ n,L.length=n:=⟨_,rfl⟩;rw [hn] at hi c0;clear hR2 hR hn
   go_enter Tryz.func68,Tryz.ntmps68
   go_upto_region 1 with fail
   go_quiet (fail)
   go_wp2_with fail
   go_ret
   exact ⟨rfl,_,rfl⟩
 ·have hF:R=false:=by rw [← hR2];rfl
  subst hF;clear hR2 hR hT
  go_enter Tryz.func68,Tryz.ntmps68
  go_upto_region 1 with fail
  go_quiet (fail)
  go_wp2_with fail
  go_ret
  exact ⟨rfl,_,rfl⟩
theorem Ta (w:World) (a b:Nat):(w.drewN a).drewN b=w.drewN (a+b):=by simp [World.drewN,Nat.add_comm,Nat.add_left_comm]
theorem mZ (d:Nat) (L:List aZ) (lv:Value) (i:Nat) (b:Bool) (w:World) (hR:Rd d lv i b w) (hT:Tk d L lv w) :
  Calls Tryz.prog 59 #[.pointer (some ⟨d,0,none⟩)] w (Idle (.int .i64 (bQ L i)) w):=by
 have c0:=hR.c0;have c1:=hR.c1;have hd:=hR.lt
 by_cases hi:i<L.length
 ·obtain ⟨g,off,cap,rfl,hgd,_,_,k2,_⟩:=lI hT hi
  have hF:bQ L i=L[i].f:=by unfold bQ;rw [aC hi]
  rw [hF];generalize L[i]=t at k2;obtain ⟨tw,tt,tf,te⟩:=t;dsimp only at k2 ⊢;obtain ⟨n,hn⟩:∃ n,L.length=n:=⟨_,rfl⟩;rw [hn] at hi c0;clear hR hT hn hF
  go_enter Tryz.func59,Tryz.ntmps59
  go_upto_region 1 with fail
  go_quiet (fail)
  go_upto_region 2 with fail
  go_quiet (fail)
  go_wp2_with fail
  go_ret
  exact ⟨rfl,_,Ta _ _ _⟩
 ·obtain ⟨la,cap,rfl,_⟩:=hT
  have hF:bQ L i=0:=by unfold bQ;rw [dh (by omega)]
  rw [hF];obtain ⟨n,hn⟩:∃ n,L.length=n:=⟨_,rfl⟩;rw [hn] at hi c0;clear hR hn hF
  go_enter Tryz.func59,Tryz.ntmps59
  go_upto_region 1 with fail
  go_quiet (fail)
  go_wp2_with fail
  go_ret
  exact ⟨rfl,_,rfl⟩
theorem LV (d:Nat) (L:List aZ) (lv:Value) (i:Nat) (b:Bool) (w:World) (hR:Rd d lv i b w) (hT:Tk d L lv w) (hi:i≤L.length) (hL:L.length≤1000000) :
  Calls Tryz.prog 86 #[.pointer (some ⟨d,0,none⟩)] w (Idle (.int .i64 (jY L i)) w):=by
 have c0:=hR.c0;have c1:=hR.c1;have hd:=hR.lt
 by_cases h0:i=0
 ·subst h0
  have hF:jY L 0=0:=rfl;rw [hF];obtain ⟨la,cap,rfl,_⟩:=hT;clear hR hF hi
  go_enter Tryz.func86,Tryz.ntmps86
  go_wp2_with fail
  go_ret
  exact ⟨rfl,0,rfl⟩
 ·obtain ⟨j,rfl⟩:∃ j,i=j+1:=⟨i - 1,by omega⟩
  have hj:j<L.length:=by omega
  obtain ⟨g,off,cap,rfl,hgd,_,_,_,k3⟩:=lI hT hj
  have hF:jY L (j+1)=L[j].e:=by unfold jY;rw [ai (by omega),gy,aC hj]
  rw [hF];generalize L[j]=t at k3;obtain ⟨tw,tt,tf,te⟩:=t;dsimp only at k3 ⊢;obtain ⟨n,hn⟩:∃ n,L.length=n:=⟨_,rfl⟩;rw [hn] at hj hi c0 hL;obtain ⟨m,hm⟩:∃ m,j+1=m:=⟨_,rfl⟩;rw [hm] at c1
  have hm0:0<m:=by omega
  have hi1:IntKind.i64.wrap ((m:Int) - 1)=(j:Int):=(bg _ (by omega)).trans (by omega)
  have hj0:(0:Int)≤(j:Int):=by omega
  have hj1:(j:Int)<(n:Int):=by omega
  clear hR hT hn hF hm h0
  go_enter Tryz.func86,Tryz.ntmps86
  go_upto_region 2 with fail
  go_quiet (fail)
  go_wp2_with fail
  go_ret
  exact ⟨rfl,_,rfl⟩
theorem fE (d:Nat) (L:List aZ) (lv:Value) (i:Nat) (b:Bool) (x:By) (w:World) (hR:Rd d lv i b w) (hT:Tk d L lv w) (hi:i≤1000000) :
  Calls Tryz.prog 62 #[.pointer (some ⟨d,0,none⟩),.string (aU x)] w fun e w'=>e=.returned (.bool (!b&&bG L x i))∧kz d lv (if (!b&&bG L x i)=true then i+1 else i) b w w':=by
 have c1:=iM d L lv i b x w hR hT;obtain ⟨R,hR2⟩:∃ R,(!b&&bG L x i)=R:=⟨_,rfl⟩;rw [hR2] at c1 ⊢;have HR:=hid hR;generalize aU x=y at c1 ⊢;clear hR2 hT
 cases R
 ·go_enter Tryz.func62,Tryz.ntmps62
  go_wp2_with fail
  refine c1.mono ?_;intro e w1 h1;obtain ⟨rfl,hw⟩:=h1.went HR.out;have HW:=hid hw;clear c1 h1 hw
  go_wp2_with fail
  go_ret
  exact ⟨rfl,HW.out⟩
 ·go_enter Tryz.func62,Tryz.ntmps62
  go_wp2_with fail
  refine c1.mono ?_;intro e w1 h1;obtain ⟨rfl,hw⟩:=h1.went HR.out;have k1:=hw.1.c1;have f1:=hw.1.f1;have HW:=hid hw;have e1:IntKind.i64.wrap ((i:Int)+1)=(i:Int)+1:=bg _ (by omega);clear c1 h1 hw hR
  go_wp2_with fail
  go_ret
  exact ⟨rfl,HW.out.1.set1 _ (by simp),HW.out.2.setCell 1 _⟩
theorem kz.at {d:Nat} {lv:Value} {i i':Nat} {b b':Bool} {w w':World} (h:kz d lv i b w w') (hi:i=i') (hb:b=b'):kz d lv i' b' w w':=by subst hi hb;exact h
theorem jf (d:Nat) (L:List aZ) (lv:Value) (i:Nat) (b:Bool) (x:By) (w:World) (hR:Rd d lv i b w) (hT:Tk d L lv w) (hi:i≤1000000) :
  Calls Tryz.prog 60 #[.pointer (some ⟨d,0,none⟩),.string (aU x)] w fun e w'=>e=.returned (.tuple #[])∧kz d lv (start b i (bI L x i)).at (start b i (bI L x i)).aA w w':=by
 have c1:=fE d L lv i b x w hR hT hi
 have hs:(start b i (bI L x i)).at=(if (!b&&bG L x i)=true then i+1 else i)∧(start b i (bI L x i)).aA=!(!b&&bG L x i):=by
  unfold start bI
  cases b <;> cases bG L x i <;> exact ⟨rfl,rfl⟩
 rw [hs.1,hs.2];obtain ⟨R,hR2⟩:∃ R,(!b&&bG L x i)=R:=⟨_,rfl⟩;rw [hR2] at c1 ⊢;have HB:Hid (R=true→b=false):=hid (fun h=>by rw [← hR2] at h;cases b;rfl;cases h);generalize aU x=y at c1 ⊢;clear hR2 hT hs hR
 cases R
 ·go_enter Tryz.func60,Tryz.ntmps60
  go_wp2_with fail
  refine c1.mono ?_;rintro e w1 ⟨rfl,hw⟩;have k2:=hw.1.c2;have f2:=hw.1.f2;have HW:=hid hw;clear c1 hw
  go_wp2_with fail
  refine fZ (aI rfl _ _ _) rfl ?_
  exact ⟨rfl,HW.out.1.set2 true,HW.out.2.setCell 2 _⟩
 ·go_enter Tryz.func60,Tryz.ntmps60
  go_wp2_with fail
  refine c1.mono ?_;rintro e w1 ⟨rfl,hw⟩;have HW:=hid hw;clear c1 hw
  go_wp2_with fail
  refine fZ (aI rfl _ _ _) rfl ?_
  exact ⟨rfl,HW.out.at rfl (HB.out trivial)⟩
def xy:Out By→ByteArray
 | .ok s _=>aU s
 | .bad _=>⟨#[]⟩
theorem nH (d:Nat) (L:List aZ) (lv:Value) (i:Nat) (b:Bool) (w:World) (hR:Rd d lv i b w) (hT:Tk d L lv w) (hi:i≤1000000) :
  Calls Tryz.prog 61 #[.pointer (some ⟨d,0,none⟩)] w fun e w'=>e=.returned (.string (xy (start b i (gK L i))))∧kz d lv (start b i (gK L i)).at (start b i (gK L i)).aA w w':=by
 have c1:=pF d L lv i b 0 w hR hT;obtain ⟨R,hR2⟩:∃ R,(!b&&bT L 0 i)=R:=⟨_,rfl⟩;rw [hR2] at c1;have HR:=hid hR;have HT:=hid hT
 cases R
 ·have hs:start b i (gK L i)=.bad i:=by
   unfold start gK
   cases b
   ·have:bT L 0 i=false:=by simpa using hR2
    rw [this];rfl
   ·rfl
  rw [hs];clear hR2 hT hs
  go_enter Tryz.func61,Tryz.ntmps61
  go_wp2_with fail
  refine c1.mono ?_;intro e w1 h1;obtain ⟨rfl,hw⟩:=h1.went HR.out;have k2:=hw.1.c2;have f2:=hw.1.f2;have HW:=hid hw;clear c1 h1 hw hR
  go_wp2_with fail
  go_ret
  exact ⟨rfl,HW.out.1.set2 true,HW.out.2.setCell 2 _⟩
 ·have hb:b=false∧bT L 0 i=true:=by simpa using hR2
  obtain ⟨rfl,hc⟩:=hb
  have hil:i<L.length:=by
   by_cases h:i<L.length
   ·exact h
   ·rw [rO 0 h] at hc;cases hc
  have hs:start false i (gK L i)=.ok (dz L i) (i+1):=by unfold start gK;rw [hc];rfl
  have ht:dz L i=L[i].t:=by unfold dz;rw [aC hil]
  rw [hs,ht];obtain ⟨tx,htx⟩:∃ tx,L[i].t=tx:=⟨_,rfl⟩;rw [htx];have LK:=hid htx;clear hR2 hs ht hc htx
  go_enter Tryz.func61,Tryz.ntmps61
  go_wp2_with fail
  refine c1.mono ?_;intro e w1 h1;obtain ⟨rfl,hw⟩:=h1.went HR.out;have k1:=hw.1.c1;have f1:=hw.1.f1;have e1:IntKind.i64.wrap ((i:Int)+1)=(i:Int)+1:=bg _ (by omega);have HW:=hid hw;clear c1 h1 hw hR
  go_upto_region 6 with fail
  have hw2:kz d lv (i+1) false w (w1.setCell ⟨d,1,none⟩ (.int .i64 ((i:Int)+1))):=⟨HW.out.1.set1 _ (by simp),HW.out.2.setCell 1 _⟩;have HT2:=HT.out.mv hw2.2 (ae _);obtain ⟨W2,hW2⟩:∃ W2,w1.setCell ⟨d,1,none⟩ (.int .i64 ((i:Int)+1))=W2:=⟨_,rfl⟩;rw [hW2] at hw2 HT2 ⊢;obtain ⟨g,off,cap,rfl,hgd,_,q1,_,_⟩:=lI HT2 hil;have q0:=hw2.1.c0;have q5:=hw2.1.c1;have TT:=hid hw2;rw [LK.out] at q1;obtain ⟨n,hn⟩:∃ n,L.length=n:=⟨_,rfl⟩;rw [hn] at hil q0;obtain ⟨m,hm⟩:∃ m,i+1=m:=⟨_,rfl⟩;rw [hm] at q5
  have hm0:0<m:=by omega
  have hi1:IntKind.i64.wrap ((m:Int) - 1)=(i:Int):=(bg _ (by omega)).trans (by omega)
  have hj0:(0:Int)≤(i:Int):=by omega
  have hj1:(i:Int)<(n:Int):=by omega
  clear hW2 hw2 HT2 k1 f1 hT hm hn
  go_quiet (fail)
  go_wp2_with fail
  go_ret
  exact ⟨rfl,TT.out.1.drewN _,TT.out.2.drewN _⟩
theorem Tc {L:List aZ} {i:Nat} (h:bT L 5 i=true):bE L i=bE L (i+1)+1:=by
 have hil:i<L.length:=by
  by_cases h1:i<L.length
  ·exact h1
  ·rw [rO 5 h1] at h;cases h
 rw [tN 5 hil] at h
 unfold bE
 rw [bZ hil,bJ,h]
 simp
theorem Ph {L:List aZ} {i:Nat} (h:bT L 5 i=false):bE L i=0:=by
 unfold bE
 by_cases hil:i<L.length
 ·rw [tN 5 hil] at h
  rw [bZ hil,bJ,h]
  rfl
 ·rw [gD (by omega)];rfl
theorem Td (L:List aZ) (i:Nat):i+bE L i≤max i L.length:=by
 unfold bE
 have:=(List.takeWhile_sublist (fun t:aZ=>t.w==5) (l:=L.drop i)).length_le;rw [bC] at this
 omega
def atR (d:Nat) (w:World):Nat:=match w.cell? ⟨d,1,none⟩ with
 | some (.int _ k)=>k.toNat
 | _=>0
theorem Rd.at {d:Nat} {lv:Value} {i:Nat} {b:Bool} {w:World} (h:Rd d lv i b w):atR d w=i:=by unfold atR;rw [h.c1];rfl
theorem nP (d:Nat) (L:List aZ) (lv:Value) (i:Nat) (b:Bool) (w:World) (hR:Rd d lv i b w) (hT:Tk d L lv w) (hi:i≤L.length) (hL:L.length≤1000000) :
  Calls Tryz.prog 44 #[.pointer (some ⟨d,0,none⟩)] w fun e w'=>e=.returned (.bool (decide (0<(if b then 0 else bE L i))))∧kz d lv (i+(if b then 0 else bE L i)) b w w':=by
 obtain ⟨k,hk⟩:∃ k,(if b then 0 else bE L i)=k:=⟨_,rfl⟩;rw [hk];have HK:=hid hk;have HT:=hid hT;have HR:=hid hR;clear hk hR hT
 go_enter Tryz.func44,Tryz.ntmps44
 go_wp2_with fail
 go_loopw [3] (fun sv wr=>∃ (j r:Nat),sv=.bool (decide (i<j))∧i≤j∧j≤L.length∧Hid (j+r=i+k)∧Hid ((if b then 0 else bE L j)=r)∧Hid (kz d lv j b w wr)) (fun _ wr=>L.length+1 - atR d wr)
 case atStart=>exact ⟨i,k,by simp,ae _,hi,hid rfl,HK,hid ⟨HR.out,Mv.refl _ _ _⟩⟩
 case round =>
  obtain ⟨j,r,rfl,hij,hjL,HJ,HS,HW⟩:=hrel;have c1:=pF d L lv j b 5 wr HW.out.1 (HT.out.mv HW.out.2 (ae _));have hat:=HW.out.1.at;obtain ⟨R,hR2⟩:∃ R,(!b&&bT L 5 j)=R:=⟨_,rfl⟩;rw [hR2] at c1;have HR2:=hid hR2;clear hR2
  cases R
  ·have HF:Hid (j=i+k):=hid (by
    have h1:=HJ.out;have h2:=HS.out;have h3:=HR2.out
    cases b
    ·rw [Ph (by simpa using h3)] at h2
     simp at h2;omega
    ·simp at h2;omega)
   clear hat
   go_wp2_with fail
   refine c1.mono ?_;intro e w1 h1;obtain ⟨rfl,hw⟩:=h1.went HW.out.1;have HW1:Hid (kz d lv j b w w1):=hid ⟨hw.1,HW.out.2.trans (hw.2.mono HW.out.2.size)⟩;clear c1 h1 hw
   go_wp2_with fail
   go_ret
   refine ⟨?_,HW1.out.at HF.out rfl⟩;rw [HF.out]
   simp
  ·have hb:b=false∧bT L 5 j=true:=by simpa using HR2.out
   obtain ⟨rfl,hc⟩:=hb
   have hjl:j<L.length:=by
    by_cases h:j<L.length
    ·exact h
    ·rw [rO 5 h] at hc;cases hc
   have hon:=Tc hc;have HS2:Hid ((if false=true then 0 else bE L (j+1))=r - 1):=hid (by have h:=HS.out;simp at h ⊢;omega);have HJ2:Hid (j+1+(r - 1)=i+k):=hid (by have h:=HS.out;have h2:=HJ.out;simp at h;omega)
   go_wp2_with fail
   refine c1.mono ?_;intro e w1 h1;obtain ⟨rfl,hw⟩:=h1.went HW.out.1;have HW1:Hid (kz d lv j false w w1):=hid ⟨hw.1,HW.out.2.trans (hw.2.mono HW.out.2.size)⟩;have k1:=hw.1.c1;have f1:=hw.1.f1;have e1:IntKind.i64.wrap ((j:Int)+1)=(j:Int)+1:=bg _ (by omega);have HW2:Hid (kz d lv (j+1) false w (w1.setCell ⟨d,1,none⟩ (.int .i64 ((j:Int)+1)))):=hid ⟨HW1.out.1.set1 _ (by simp),HW1.out.2.setCell 1 _⟩;clear c1 h1 hw hc hon
   go_wp2_with fail
   go_roundw
   case rel=>exact ⟨j+1,r - 1,by simp;omega,by omega,by omega,HJ2,HS2,HW2⟩
   case measure=>rw [hat,HW2.out.1.at];omega
theorem dS {W:World} {q:Nat} {a b c d e a' b' c' d' e':Value} {t:TypeId} (h:W.heap[q]?=some (.cells #[a,b,c,d,e] t (0,0))) :
  (((((W.setCell ⟨q,0,none⟩ a').setCell ⟨q,1,none⟩ b').setCell ⟨q,2,none⟩ c').setCell ⟨q,3,none⟩ d').setCell ⟨q,4,none⟩ e').heap[q]?=some (.cells #[a',b',c',d',e'] t (0,0)):=by
 have hq:q<W.heap.size:=(af.1 h).1
 simp [World.setCell,Array.getElem?_modify,h]
theorem aF {W:World} {k:Nat} {a b c d e:Value} {t:TypeId} (h:W.heap[k]?=some (.cells #[a,b,c,d,e] t (0,0))) :
  (W.cell? ⟨k,0,none⟩=some a∧W.cell? ⟨k,1,none⟩=some b∧W.cell? ⟨k,2,none⟩=some c∧W.cell? ⟨k,3,none⟩=some d∧W.cell? ⟨k,4,none⟩=some e)∧∀ j,W.frozen? ⟨k,j,none⟩=false:=by
 refine ⟨⟨?_,?_,?_,?_,?_⟩,fun j=>by simp [World.frozen?,h]⟩ <;> (unfold World.cell?;rw [h];rfl)
theorem eZ (d:Nat) (L:List aZ) (lv:Value) (i:Nat) (b:Bool) (k t:ByteArray) (f:Int) (a:Option Addr) (n c:Nat) (w:World) (hR:Rd d lv i b w) (hT:Tk d L lv w) (hi:i≤L.length) (hL:L.length≤1000000) :
  Calls Tryz.prog 66 #[.pointer (some ⟨d,0,none⟩),.string k,.string t,.int .i64 f,.slice a n c] w fun e w'=>e=.returned (.agg #[.string k,.string t,.int .i64 f,.int .i64 (jY L i),.slice a n c])∧kz d lv i b w w':=by
 have hd:=hR.lt;obtain ⟨W1,hW1⟩:∃ W1,w.alloc (.cells #[.string ⟨#[]⟩,.string ⟨#[]⟩,.int .i64 0,.int .i64 0,.slice none 0 0] 49)=W1:=⟨_,rfl⟩
 have hb1:Below w.heap.size w W1:=by rw [← hW1];exact (aj _ w).alloc (ae _) _
 have hq1:W1.heap[w.heap.size]?=some (.cells #[.string ⟨#[]⟩,.string ⟨#[]⟩,.int .i64 0,.int .i64 0,.slice none 0 0] 49 (0,0)):=by rw [← hW1];exact aG w _
 have lL:Rd d lv i b W1:=hR.below hb1;have c1:=LV d L lv i b W1 lL (hT.mv (Mv.of_below hb1) (ae _)) hi hL;obtain ⟨e,he⟩:∃ e,jY L i=e:=⟨_,rfl⟩;rw [he] at c1 ⊢;have HW1:=hid hW1;have jD:=hid hq1;have HB1:=hid hb1;have HR1:=hid lL;clear hW1 hq1 hb1 lL hR hT he
 go_enter Tryz.func66,Tryz.ntmps66
 go_wp2_with fail
 rw [HW1.out];refine c1.mono ?_;intro x w2 h2;obtain ⟨rfl,hw2⟩:=h2.went HR1.out;have ow:=(af.1 jD.out).1;have hq2:w2.heap[w.heap.size]?=_:=(hw2.2.block w.heap.size ow (by omega)).trans jD.out;have hm2:Mv w.heap.size d w w2:=(Mv.of_below HB1.out).trans (hw2.2.mono (fu ow));obtain ⟨⟨p0,p1,p2,p3,p4⟩,fz⟩:=aF hq2;have g0:=fz 0;have g1:=fz 1;have g2:=fz 2;have g3:=fz 3;have g4:=fz 4;have Bz:=hid hq2;have kG:=hid hm2;have HR2:=hid hw2.1;clear c1 h2 hw2 hq2 hm2 fz
 go_wp2_with fail
 have hp:=dS (a':=.string k) (b':=.string t) (c':=.int .i64 f) (d':=.int .i64 e) (e':=.slice a n c) Bz.out
 have hbl:Below w.heap.size w2 (((((w2.setCell ⟨w.heap.size,0,none⟩ (.string k)).setCell ⟨w.heap.size,1,none⟩ (.string t)).setCell ⟨w.heap.size,2,none⟩ (.int .i64 f)).setCell ⟨w.heap.size,3,none⟩ (.int .i64 e)).setCell ⟨w.heap.size,4,none⟩ (.slice a n c)) :=
  (((((aj w.heap.size w2).setCell (p:=⟨w.heap.size,0,none⟩) (ae _) _).setCell (p:=⟨w.heap.size,1,none⟩) (ae _) _).setCell (p:=⟨w.heap.size,2,none⟩) (ae _) _).setCell (p:=⟨w.heap.size,3,none⟩) (ae _) _).setCell (p:=⟨w.heap.size,4,none⟩) (ae _) _
 refine aB (v:=.agg #[.string k,.string t,.int .i64 f,.int .i64 e,.slice a n c]) (aQ rfl _ _ w.heap.size 49 #[.string k,.string t,.int .i64 f,.int .i64 e,.slice a n c] (0,0) _ (by rfl) hp Tryz.underlying49 rfl (by kernel_rfl)) rfl ?_
 exact ⟨rfl,(hbl.block d hd).trans HR2.out,kG.out.trans (Mv.of_below hbl)⟩
def qh (W:World) (R:Nat→Prop) (o:Out Pt) (v:Value):Prop :=
 ∃ k t f e a n c,v=.agg #[.string k,.string t,.int .i64 f,.int .i64 e,.slice a n c]∧n≤1000000∧∀ p j,o=.ok p j→v=.agg (five p (.slice a n c)).toArray∧aT W R p (.slice a n c)
def Reads (d:Nat) (lv:Value) (o:Out Pt) (w:World) (e:Ending) (w':World):Prop :=
 ∃ v,e=.returned v∧qh w' (fun g=>w.heap.size≤g) o v∧kz d lv o.at o.aA w w'
end T
namespace T
open Go.Lib hiding intOf
open U S
structure Fw (L:List aZ) (i:Nat) {α:Type} (o:Out α):Prop where
 ge:i≤o.at
 le:o.at≤L.length
structure vW (L:List aZ) (i:Nat) {α:Type} (o:Out α):Prop extends Fw L i o where
 gt:o.aA=false→i<o.at
section
variable {L:List aZ} {i j:Nat} {α β:Type}
theorem vW.bad (hi:i≤L.length):vW L i (.bad i:Out α):=⟨⟨ae _,hi⟩,fun h=>by cases h⟩
theorem Fw.ok (hij:i≤j) (hj:j≤L.length) (a:α):Fw L i (.ok a j):=⟨hij,hj⟩
theorem vW.ok (hij:i<j) (hj:j≤L.length) (a:α):vW L i (.ok a j):=⟨⟨fu hij,hj⟩,fun _=>hij⟩
theorem Fw.mono {o:Out α} (h:Fw L j o) (hij:i≤j):Fw L i o:=⟨aJ hij h.ge,h.le⟩
theorem vW.mono {o:Out α} (h:vW L j o) (hij:i≤j):vW L i o:=⟨h.toFw.mono hij,fun hb=>Nat.lt_of_le_of_lt hij (h.gt hb)⟩
theorem Fw.strict {o:Out α} (h:Fw L j o) (hij:i<j):vW L i o:=⟨h.mono (fu hij),fun _=>aD hij h.ge⟩
theorem vW.next {o:Out α} {f:α→Nat→Out β} (h:vW L i o) (hf:∀ a j,o=.ok a j→i<j→j≤L.length→Fw L j (f a j)):vW L i (o.next f):=by
 cases o with
 | ok a j=>exact (hf a j rfl (h.gt rfl) h.le).strict (h.gt rfl)
 | bad j=>exact ⟨⟨h.ge,h.le⟩,fun hb=>by cases hb⟩
theorem Fw.next {o:Out α} {f:α→Nat→Out β} (h:Fw L i o) (hf:∀ a j,o=.ok a j→i≤j→j≤L.length→Fw L j (f a j)):Fw L i (o.next f):=by
 cases o with
 | ok a j=>exact (hf a j rfl h.ge h.le).mono h.ge
 | bad j=>exact ⟨h.ge,h.le⟩
theorem bR {x:By} (h:bG L x i=true):i<L.length:=by
 by_cases h1:i<L.length
 ·exact h1
 ·rw [He x h1] at h;cases h
theorem gP {x:Int} (h:bT L x i=true):i<L.length:=by
 by_cases h1:i<L.length
 ·exact h1
 ·rw [rO x h1] at h;cases h
theorem bU (x:By) (hi:i≤L.length):vW L i (bI L x i):=by
 unfold bI
 by_cases h:bG L x i=true
 ·rw [ay h];exact .ok (eu _) (bR h) _
 ·rw [ai h];exact .bad hi
theorem jw (hi:i≤L.length):vW L i (gK L i):=by
 unfold gK
 by_cases h:bT L 0 i=true
 ·rw [ay h];exact .ok (eu _) (gP h) _
 ·rw [ai h];exact .bad hi
theorem iJ (k t:By) (f:Int) (ks:List Pt) (hi:i≤L.length):Fw L i (part L k t f ks i):=.ok (ae _) hi _
theorem uE (L:List aZ) (n i:Nat):typed L (n+1) i=if bG L [42] i then (typed L n (i+1)).next fun x j=>part L vk [] (bQ L i) [x] j
  else if bG L [91] i then (bI L [93] (i+1)).next fun _ j=>(typed L n j).next fun x k=>part L qw [] (bQ L i) [x] k
  else (gK L i).next fun s j=>part L yD s (bQ L i) [] j:=rfl
theorem jy:∀ (n i:Nat),i≤L.length→vW L i (typed L n i)
 | 0,_,hi=>.bad hi
 | n+1,i,hi=>by
  rw [uE]
  by_cases h:bG L [42] i=true
  ·rw [ay h]
   exact ((jy n (i+1) (bR h)).next fun a j _ _ hj=>iJ _ _ _ _ hj).mono (dZ _)
  ·rw [ai h]
   by_cases h1:bG L [91] i=true
   ·rw [ay h1]
    exact ((bU [93] (bR h1)).next fun a j _ _ hj=>((jy n j hj).next fun a k _ _ hk=>iJ _ _ _ _ hk).toFw).mono (dZ _)
   ·rw [ai h1]
    exact (jw hi).next fun a j _ _ hj=>iJ _ _ _ _ hj
theorem wU (n:Nat) (kind:By) (hi:i≤L.length):vW L i (param L n kind i) :=
 (jw hi).next fun _ j _ _ hj=>((jy n j hj).next fun _ _ _ _ hk=>iJ _ _ _ _ hk).toFw
theorem zo (n:Nat) (hi:i≤L.length):vW L i (iX L n i) :=
 (bU _ hi).next fun _ _ _ _ hj=>((jw hj).next fun _ k _ _ hk=>((jy n k hk).next fun _ _ _ _ hm=>iJ _ _ _ _ hm).toFw).toFw
end
end T
namespace T
open Go.RowKit
open Go.Lib hiding intOf
open U S L
abbrev gB:Obj:=.cells #[.string ⟨#[]⟩,.string ⟨#[]⟩,.int .i64 0,.int .i64 0,.slice none 0 0] 49
theorem VN {W W':World} {R:Nat→Prop} {x:Pt} {q:Nat} {k t:ByteArray} {f e:Int} {a:Option Addr} {n c:Nat} {ty:TypeId} (hv:(.agg #[.string k,.string t,.int .i64 f,.int .i64 e,.slice a n c]:Value)=.agg (five x (.slice a n c)).toArray) (hk:aT W R x (.slice a n c)) (hs:Still R W W') (hq:W'.heap[q]?=some (.cells #[.string k,.string t,.int .i64 f,.int .i64 e,.slice a n c] ty (0,0)))
  (R':Nat→Prop) (hR:∀ g,R g→R' g) (hRq:R' q) (K T:By) (F E:Int):aT W' R' (.mk K T F E [x]) (.slice (some ⟨q,0,none⟩) 1 1):=by
 have hx:five x (.slice a n c)=[.string k,.string t,.int .i64 f,.int .i64 e,.slice a n c]:=by
  have h1:=congrArg (fun v:Value=>match v with|.agg xs=>xs.toList|_=>[]) hv
  simpa using h1.symm
 refine ⟨_,1,rfl,ae _,.inr ⟨q,0,five x (.slice a n c),rfl,hRq,?_,?_⟩⟩
 ·rw [hx]
  obtain ⟨⟨c0,c1,c2,c3,c4⟩,_⟩:=aF hq;intro j u hj;rw [bz];have hj2:=(aN.1 hj).1
  match j,hj2 with
  | 0,_=>simp at hj;subst hj;exact c0
  | 1,_=>simp at hj;subst hj;exact c1
  | 2,_=>simp at hj;subst hj;exact c2
  | 3,_=>simp at hj;subst hj;exact c3
  | 4,_=>simp at hj;subst hj;exact c4
 ·exact ⟨.slice a n c,[],by simp,hk.later hs hR,rfl⟩
theorem wV (W:World) (R:Nat→Prop) (K T:By) (F E:Int):aT W R (.mk K T F E []) (.slice none 0 0):=⟨none,0,rfl,ae _,.inl rfl⟩
theorem Mv.still {B d:Nat} {w w':World} (h:Mv B d w w') {R:Nat→Prop} (hB:w.heap.size≤B) (hd:∀ g,R g→g≠d):Still R w w':=fun g hg hl=>h.block g (by omega) (hd g hg)
theorem vX {B d q:Nat} {w:World} {a b c e f:Value} (hq:B≤q):Mv B d w (((((w.setCell ⟨q,0,none⟩ a).setCell ⟨q,1,none⟩ b).setCell ⟨q,2,none⟩ c).setCell ⟨q,3,none⟩ e).setCell ⟨q,4,none⟩ f) :=
 Mv.of_below ((((((aj B w).setCell (p:=⟨q,0,none⟩) hq _).setCell (p:=⟨q,1,none⟩) hq _).setCell (p:=⟨q,2,none⟩) hq _).setCell (p:=⟨q,3,none⟩) hq _).setCell (p:=⟨q,4,none⟩) hq _)
theorem dO {d i:Nat} {b:Bool} {lv v x0 x1 x2 x3 x4:Value} {O:Out Pt} {w w':World} (hd:d<w.heap.size) (hM:Mv w.heap.size d w w') (hR:Rd d lv i b w') (hi:O.at=i) (hb:O.aA=b) (hP:qh w' (fun g=>w.heap.size<g) O v) {q:Nat} (hq:q≤w.heap.size∧w.heap.size≤q) :
  Reads d lv O w (.returned v) (((((w'.setCell ⟨q,0,none⟩ x0).setCell ⟨q,1,none⟩ x1).setCell ⟨q,2,none⟩ x2).setCell ⟨q,3,none⟩ x3).setCell ⟨q,4,none⟩ x4):=by
 obtain rfl:q=w.heap.size:=by omega
 subst hi hb;have h5:=vX (d:=d) (w:=w') (a:=x0) (b:=x1) (c:=x2) (e:=x3) (f:=x4) (ae w.heap.size)
 refine ⟨v,rfl,?_,?_,hM.trans h5⟩
 ·obtain ⟨k,t,f,e,a,n,c,h1,h2,h3⟩:=hP
  refine ⟨k,t,f,e,a,n,c,h1,h2,fun p j fQ=>⟨(h3 p j fQ).1,(h3 p j fQ).2.later ?_ (fun g hg=>fu hg)⟩⟩;intro g hg hl
  repeat rw [ak _ _ _ _ (by show g≠w.heap.size;omega)]
 ·have h6:(((((w'.setCell ⟨w.heap.size,0,none⟩ x0).setCell ⟨w.heap.size,1,none⟩ x1).setCell ⟨w.heap.size,2,none⟩ x2).setCell ⟨w.heap.size,3,none⟩ x3).setCell ⟨w.heap.size,4,none⟩ x4).heap[d]?=w'.heap[d]?:=by
   repeat rw [ak _ _ _ _ (by show d≠w.heap.size;omega)]
  unfold Rd
  rw [h6];exact hR
theorem rP {o:Out Pt} {L:List aZ} {K T:By} {F:Int} (g:Pt→List Pt):(o.next fun x j=>part L K T F (g x) j).at=o.at∧(o.next fun x j=>part L K T F (g x) j).aA=o.aA:=by cases o <;> exact ⟨rfl,rfl⟩
theorem Ap {W W':World} {R R':Nat→Prop} {o:Out Pt} {L:List aZ} {K T:By} {F E:Int} {k t:ByteArray} {f e:Int} {a:Option Addr} {n c q:Nat} {ty:TypeId}
  (hV:∀ p j,o=.ok p j→(.agg #[.string k,.string t,.int .i64 f,.int .i64 e,.slice a n c]:Value)=.agg (five p (.slice a n c)).toArray∧aT W R p (.slice a n c))
  (hs:Still R W W') (hq:W'.heap[q]?=some (.cells #[.string k,.string t,.int .i64 f,.int .i64 e,.slice a n c] ty (0,0))) (hR:∀ g,R g→R' g) (hRq:R' q) (hE:jY L o.at=E) :
  qh W' R' (o.next fun x j=>part L K T F [x] j) (.agg #[.string (aU K),.string (aU T),.int .i64 F,.int .i64 E,.slice (some ⟨q,0,none⟩) 1 1]):=by
 refine ⟨_,_,_,_,_,_,_,rfl,by omega,?_⟩;intro p j fQ
 cases o with
 | bad j'=>cases fQ
 | ok x j' =>
  obtain ⟨h1,h2⟩:=hV x j' rfl;simp only [Out.next,part,Out.ok.injEq] at fQ;obtain ⟨rfl,rfl⟩:=fQ;have hE':jY L j'=E:=hE;rw [hE']
  exact ⟨rfl,VN h1 h2 hs hq R' hR hRq K T F E⟩
theorem DL {α β:Type} (o:Out α) (f:Nat→Out β):(o.next fun _ j=>f j)=start o.aA o.at (f o.at):=by cases o <;> rfl
theorem qV {α β γ:Type} (o:Out α) (f:α→Nat→Out β) (g:β→Nat→Out γ):(o.next f).next g=o.next fun a j=>(f a j).next g:=by cases o <;> rfl
theorem aW {α:Type} (i:Nat) (o:Out α):start false i o=o:=rfl
theorem J3 {α:Type} {L:List aZ} {i:Nat} {o:Out α} (b:Bool) (hi:i≤L.length) (h:o.at≤L.length):(start b i o).at≤L.length:=by cases b;exact h;exact hi
theorem DN {W:World} {R:Nat→Prop} {o:Out By} {L:List aZ} {K:By} {F E:Int} (hE:jY L o.at=E) :
  qh W R (o.next fun s j=>part L K s F [] j) (.agg #[.string (aU K),.string (xy o),.int .i64 F,.int .i64 E,.slice none 0 0]):=by
 refine ⟨_,_,_,_,_,_,_,rfl,by omega,?_⟩;intro p j fQ
 cases o with
 | bad j'=>cases fQ
 | ok x j' =>
  simp only [Out.next,part,Out.ok.injEq] at fQ;obtain ⟨rfl,rfl⟩:=fQ;have hE':jY L j'=E:=hE;rw [hE']
  exact ⟨rfl,wV W R K x F E⟩
theorem DR {o:Out By} {L:List aZ} {K:By} {F:Int}:(o.next fun s j=>part L K s F [] j).at=o.at∧(o.next fun s j=>part L K s F [] j).aA=o.aA:=by cases o <;> exact ⟨rfl,rfl⟩
def Hf (d:Nat) (L:List aZ) (lv:Value) (n:Nat):Prop:=∀ (i:Nat) (b:Bool) (w:World),Rd d lv i b w→Tk d L lv w→i≤L.length→(b=false→2*(L.length - i)+1≤n) →
 Calls Tryz.prog 64 #[.pointer (some ⟨d,0,none⟩)] w (Reads d lv (start b i (typed L n i)) w)
theorem DT (d:Nat) (L:List aZ) (lv:Value) (hL:L.length≤1000000) (n:Nat) (ih:∀ m,n=m+1→Hf d L lv m):Hf d L lv n:=by
 intro i b w hR hT hi hn;have hd:=hR.lt;obtain ⟨W1,hW1⟩:∃ W1,w.alloc gB=W1:=⟨_,rfl⟩
 have hb1:Below w.heap.size w W1:=by rw [← hW1];exact (aj _ w).alloc (ae _) _
 have dP:=hid (Mv.of_below (d:=d) hb1)
 have hq1:W1.heap[w.heap.size]?=some (.cells #[.string ⟨#[]⟩,.string ⟨#[]⟩,.int .i64 0,.int .i64 0,.slice none 0 0] 49 (0,0)):=by rw [← hW1];exact aG w _
 have lL:Rd d lv i b W1:=hR.below hb1;have hT1:=hT.mv (Mv.of_below hb1) (ae _);have c1:=mZ d L lv i b W1 lL hT1;obtain ⟨fr,hfr⟩:∃ fr,bQ L i=fr:=⟨_,rfl⟩;rw [hfr] at c1;have HW1:=hid hW1;have jD:=hid hq1;have HB1:=hid hb1;have HR1:=hid lL;have HT1:=hid hT1;have Aq:=hid hfr;have HN:=hid hn;have Sm:=hid ih;obtain ⟨O,hO⟩:∃ O,start b i (typed L n i)=O:=⟨_,rfl⟩;have HO:=hid hO;rw [hO];obtain ⟨Q,hQ⟩:∃ Q,Reads d lv O w=Q:=⟨_,rfl⟩;have HQ:=hid hQ;rw [hQ];clear hW1 hq1 hb1 lL hT1 hfr hn ih hO hQ hR hT
 go_enter Tryz.func64,Tryz.ntmps64
 go_wp2_with fail
 rw [HW1.out];refine c1.mono ?_;intro x w2 h2;obtain ⟨rfl,hw2⟩:=h2.went HR1.out;have kG:=hid hw2.2;have HR2:=hid hw2.1;have Kl:=HT1.out.mv hw2.2 (ae _);have c2:=fE d L lv i b [42] w2 hw2.1 Kl (by omega);have HT2:=hid Kl;obtain ⟨R1,lL⟩:∃ R1,(!b&&bG L [42] i)=R1:=⟨_,rfl⟩;rw [lL] at c2;have HA1:=hid lL;rw [show aU [42]=⟨#[42]⟩ from rfl] at c2;clear c1 h2 hw2 Kl lL
 cases R1
 ·go_wp2_with fail
  refine c2.mono ?_;rintro x w3 ⟨rfl,hw3⟩;have hw3:kz d lv i b w2 w3:=hw3;have PO:=HT2.out.mv hw3.2 (ae _);have c3:=fE d L lv i b [91] w3 hw3.1 PO (by omega);have HT3:=hid PO;have HR3:=hid hw3.1;have lq:=hid (kG.out.trans (hw3.2.mono kG.out.size));obtain ⟨R2,hR2⟩:∃ R2,(!b&&bG L [91] i)=R2:=⟨_,rfl⟩;rw [hR2] at c3;have HA2:=hid hR2;rw [show aU [91]=⟨#[91]⟩ from rfl] at c3;clear c2 hw3 PO hR2
  cases R2
  ·obtain ⟨nm,hnm⟩:∃ nm,start b i (gK L i)=nm:=⟨_,rfl⟩
   have qW:Hid (O=nm.next fun s j=>part L yD s fr [] j):=hid (by
    rw [← HO.out,← Aq.out,← hnm];have h1:=HA1.out;have h2:=HA2.out
    cases b
    ·obtain ⟨m,rfl⟩:∃ m,n=m+1:=⟨n - 1,by have:=HN.out (by trivial);omega⟩
     rw [uE,ai (by simpa using h1),ai (by simpa using h2)]
     rfl
    ·rfl)
   have Hg:Hid (nm.at≤L.length):=hid (by rw [← hnm];exact J3 b hi (jw hi).le);have HNM:=hid hnm;clear hnm
   go_wp2_with fail
   refine c3.mono ?_;rintro x w4 ⟨rfl,hw4⟩;have hw4:kz d lv i b w3 w4:=hw4;have c4:=nH d L lv i b w4 hw4.1 (HT3.out.mv hw4.2 (ae _)) (by omega);rw [HNM.out] at c4;have mJ:=hid (lq.out.trans (hw4.2.mono lq.out.size));obtain ⟨sv,hsv⟩:∃ sv,xy nm=sv:=⟨_,rfl⟩;rw [hsv] at c4;have yO:=hid hsv;clear c3 hw4 hsv
   go_wp2_with fail
   refine c4.mono ?_;rintro x w5 ⟨rfl,jA⟩;have mK:=hid (mJ.out.trans (jA.2.mono mJ.out.size));have c5:=eZ d L lv nm.at nm.aA ⟨#[110,97,109,101]⟩ sv fr none 0 0 w5 jA.1 (HT1.out.mv mK.out (ae _)) Hg.out hL;obtain ⟨e6,Te⟩:∃ e6,jY L nm.at=e6:=⟨_,rfl⟩;rw [Te] at c5;have HE6:=hid Te;clear c4 jA Te
   go_wp2_with fail
   refine c5.mono ?_;rintro x w7 ⟨rfl,hw7⟩;have iN:=hid (mK.out.trans (hw7.2.mono mK.out.size));have ow:=(af.1 jD.out).1;have jd:w7.heap[w.heap.size]?=_:=(iN.out.block w.heap.size ow (by omega)).trans jD.out;obtain ⟨⟨r0,r1,r2,r3,r4⟩,gz⟩:=aF jd;have g0:=gz 0;have g1:=gz 1;have g2:=gz 2;have g3:=gz 3;have g4:=gz 4;have pQ:=hid jd;have sD:=hid hw7;clear c5 hw7 jd gz
   go_wp2_with fail
   have hp:=dS (a':=.string ⟨#[110,97,109,101]⟩) (b':=.string sv) (c':=.int .i64 fr) (d':=.int .i64 e6) (e':=.slice none 0 0) pQ.out;refine aB (v:=.agg #[.string ⟨#[110,97,109,101]⟩,.string sv,.int .i64 fr,.int .i64 e6,.slice none 0 0]) (aQ rfl _ _ w.heap.size 49 #[.string ⟨#[110,97,109,101]⟩,.string sv,.int .i64 fr,.int .i64 e6,.slice none 0 0] (0,0) _ (by rfl) hp Tryz.underlying49 rfl (by kernel_rfl)) rfl ?_;rw [← HQ.out,qW.out];refine dO hd (dP.out.trans (iN.out.mono dP.out.size)) sD.out.1 DR.1 DR.2 ?_ ⟨ae _,ae _⟩;rw [← yO.out]
   exact DN (K:=yD) HE6.out
  ·have hb:b=false∧bG L [91] i=true:=by simpa using HA2.out
   obtain ⟨rfl,his⟩:=hb;have hil:i<L.length:=bR his;obtain ⟨m,rfl⟩:∃ m,n=m+1:=⟨n - 1,by have:=HN.out (by trivial);omega⟩;obtain ⟨o1,ho1⟩:∃ o1,bI L [93] (i+1)=o1:=⟨_,rfl⟩;obtain ⟨o,ho⟩:∃ o,start o1.aA o1.at (typed L m o1.at)=o:=⟨_,rfl⟩
   have qW:Hid (O=o.next fun x j=>part L qw [] fr [x] j):=hid (by
    rw [← HO.out,← Aq.out,← ho,← DL o1 (typed L m),qV,← ho1]
    show typed L (m+1) i=_
    rw [uE,ai (by simpa using HA1.out),ay his])
   have hF1:vW L (i+1) o1:=by rw [← ho1];exact bU _ hil
   have Hg:Hid (o.at≤L.length):=hid (by rw [← ho];exact J3 _ hF1.le (jy m o1.at hF1.le).le);have Ev:=hid hF1
   go_wp2_with fail
   refine c3.mono ?_;rintro x w3a ⟨rfl,Pj⟩;have Pj:kz d lv (i+1) false w3 w3a:=Pj;have c3a:=jf d L lv (i+1) false [93] w3a Pj.1 (HT3.out.mv Pj.2 (ae _)) (by omega);rw [aW,ho1,show aU [93]=⟨#[93]⟩ from rfl] at c3a;have ab1:=hid (lq.out.trans (Pj.2.mono lq.out.size));have HO1:=hid ho;clear c3 Pj ho1 ho hF1 his
   go_wp2_with fail
   refine c3a.mono ?_;rintro x w3b ⟨rfl,Y0⟩;have VO:=hid (ab1.out.trans (Y0.2.mono ab1.out.size));have c3b:=Sm.out m rfl o1.at o1.aA w3b Y0.1 (HT1.out.mv VO.out (ae _)) Ev.out.le (fun _=>by have:=HN.out (by trivial);have:=Ev.out.ge;omega);rw [HO1.out] at c3b;clear c3a Y0
   go_wp2_with fail
   refine c3b.mono ?_;rintro x w4 ⟨v,rfl,⟨k,t,f,e,a,n,c,rfl,hnn,hv⟩,hw4⟩;have HV:=hid hv;have uW:=hid hw4;clear c3b hv hw4
   go_upto_region 10 with fail
   obtain ⟨q,hq⟩:∃ q,w4.heap.size=q:=⟨_,rfl⟩;obtain ⟨W5,Hm⟩:∃ W5,w4.alloc (.cells #[.string k,.string t,.int .i64 f,.int .i64 e,.slice a n c] 49)=W5:=⟨_,rfl⟩
   have hb5:Below w4.heap.size w4 W5:=by rw [← Hm];exact (aj _ w4).alloc (ae _) _
   have xO:W5.heap[w4.heap.size]?=some (.cells #[.string k,.string t,.int .i64 f,.int .i64 e,.slice a n c] 49 (0,0)):=by rw [← Hm];exact aG w4 _
   rw [hq] at xO;rw [Hm,hq];obtain ⟨⟨p0,p1,p2,p3,p4⟩,fz⟩:=aF xO;clear Hm;have mJ:=hid (VO.out.trans (uW.out.2.mono VO.out.size));have mK:=hid (mJ.out.trans ((Mv.of_below hb5).mono mJ.out.size));obtain ⟨W6,VP⟩:∃ W6,W5.alloc (.cells #[.string k,.string t,.int .i64 f,.int .i64 e,.slice a n c] 49)=W6:=⟨_,rfl⟩
   have hb6:Below W5.heap.size W5 W6:=by rw [← VP];exact (aj _ W5).alloc (ae _) _
   have Il:W6.heap[W5.heap.size]?=some (.cells #[.string k,.string t,.int .i64 f,.int .i64 e,.slice a n c] 49 (0,0)):=by rw [← VP];exact aG W5 _
   have nW:=hid (mK.out.trans ((Mv.of_below hb6).mono mK.out.size));have Ad:Hid (Rd d lv o.at o.aA W6):=hid ((uW.out.1.below hb5).below hb6);have c6:=eZ d L lv o.at o.aA ⟨#[115,108,105,99,101]⟩ ⟨#[]⟩ fr (some ⟨W5.heap.size,0,none⟩) 1 1 W6 Ad.out (HT1.out.mv nW.out (ae _)) (Hg.out) hL;obtain ⟨e6,Te⟩:∃ e6,jY L o.at=e6:=⟨_,rfl⟩;rw [Te] at c6;have sN:=hid hb5;have VG:=hid Il;have HE6:=hid Te;clear Il hb6 hb5 Te
   go_wp2_with fail
   refine c6.mono ?_;rintro x w7 ⟨rfl,hw7⟩;have iN:=hid (nW.out.trans (hw7.2.mono nW.out.size));have ow:=(af.1 jD.out).1;have jd:w7.heap[w.heap.size]?=_:=(iN.out.block w.heap.size ow (by omega)).trans jD.out;obtain ⟨⟨r0,r1,r2,r3,r4⟩,gz⟩:=aF jd;have g0:=gz 0;have g1:=gz 1;have g2:=gz 2;have g3:=gz 3;have g4:=gz 4;have pQ:=hid jd;have sD:=hid hw7;have Xb:=hid VP;clear c6 hw7 jd xO gz fz p0 p1 p2 p3 p4 VP
   go_wp2_with fail
   have hp:=dS (a':=.string ⟨#[115,108,105,99,101]⟩) (b':=.string ⟨#[]⟩) (c':=.int .i64 fr) (d':=.int .i64 e6) (e':=.slice (some ⟨W5.heap.size,0,none⟩) 1 1) pQ.out;refine aB (v:=.agg #[.string ⟨#[115,108,105,99,101]⟩,.string ⟨#[]⟩,.int .i64 fr,.int .i64 e6,.slice (some ⟨W5.heap.size,0,none⟩) 1 1]) (aQ rfl _ _ w.heap.size 49 #[.string ⟨#[115,108,105,99,101]⟩,.string ⟨#[]⟩,.int .i64 fr,.int .i64 e6,.slice (some ⟨W5.heap.size,0,none⟩) 1 1] (0,0) _ (by rfl) hp Tryz.underlying49 rfl (by kernel_rfl)) rfl ?_;rw [← HQ.out,qW.out];have s1:=dP.out.size;have s3:=VO.out.size;have s4:=uW.out.2.size;have s5:=sN.out.size;have s6:=(af.1 VG.out).1;have hs:Mv w4.heap.size d w4 w7:=(Mv.of_below sN.out).trans (((Mv.of_below (by rw [← Xb.out];exact (aj _ W5).alloc (ae _) _)).trans (sD.out.2.mono (by rw [← Xb.out];simp))).mono s5);refine dO hd (dP.out.trans (iN.out.mono s1)) sD.out.1 (rP _).1 (rP _).2 ?_ ⟨ae _,ae _⟩
   exact Ap (K:=qw) (T:=[]) HV.out (hs.still (ae _) (fun g hg=>by omega)) ((sD.out.2.block _ s6 (by omega)).trans VG.out) (fun g hg=>by omega) (by omega) (by exact HE6.out)
 ·have hb:b=false∧bG L [42] i=true:=by simpa using HA1.out
  obtain ⟨rfl,his⟩:=hb
  have hil:i<L.length:=by
   by_cases h:i<L.length
   ·exact h
   ·rw [He _ h] at his;cases his
  obtain ⟨m,rfl⟩:∃ m,n=m+1:=⟨n - 1,by have:=HN.out (by trivial);omega⟩
  have qW:Hid (O=(typed L m (i+1)).next fun x j=>part L vk [] fr [x] j):=hid (by
   rw [← HO.out,← Aq.out]
   show typed L (m+1) i=_
   rw [uE,ay his])
  go_wp2_with fail
  refine c2.mono ?_;rintro x w3 ⟨rfl,hw3⟩;have PO:=HT2.out.mv hw3.2 (ae _);have c3:=Sm.out m rfl (i+1) false w3 hw3.1 PO (by omega) (fun _=>by have:=HN.out (by trivial);omega);have HT3:=hid PO;have lq:=hid (kG.out.trans (hw3.2.mono kG.out.size));obtain ⟨o,ho⟩:∃ o,typed L m (i+1)=o:=⟨_,rfl⟩;rw [show start false (i+1) (typed L m (i+1))=typed L m (i+1) from rfl,ho] at c3;rw [ho] at qW;have Hg:Hid (vW L (i+1) o):=hid (by rw [← ho];exact jy m (i+1) (by omega));clear c2 hw3 PO ho his
  go_wp2_with fail
  refine c3.mono ?_;rintro x w4 ⟨v,rfl,⟨k,t,f,e,a,n,c,rfl,hnn,hv⟩,hw4⟩;have HV:=hid hv;have uW:=hid hw4;clear c3 hv hw4
  go_upto_region 5 with fail
  obtain ⟨q,hq⟩:∃ q,w4.heap.size=q:=⟨_,rfl⟩;obtain ⟨W5,Hm⟩:∃ W5,w4.alloc (.cells #[.string k,.string t,.int .i64 f,.int .i64 e,.slice a n c] 49)=W5:=⟨_,rfl⟩
  have hb5:Below w4.heap.size w4 W5:=by rw [← Hm];exact (aj _ w4).alloc (ae _) _
  have xO:W5.heap[w4.heap.size]?=some (.cells #[.string k,.string t,.int .i64 f,.int .i64 e,.slice a n c] 49 (0,0)):=by rw [← Hm];exact aG w4 _
  rw [hq] at xO;rw [Hm,hq];obtain ⟨⟨p0,p1,p2,p3,p4⟩,fz⟩:=aF xO;clear Hm;have mJ:=hid (lq.out.trans (uW.out.2.mono lq.out.size));have mK:=hid (mJ.out.trans ((Mv.of_below hb5).mono mJ.out.size));obtain ⟨W6,VP⟩:∃ W6,W5.alloc (.cells #[.string k,.string t,.int .i64 f,.int .i64 e,.slice a n c] 49)=W6:=⟨_,rfl⟩
  have hb6:Below W5.heap.size W5 W6:=by rw [← VP];exact (aj _ W5).alloc (ae _) _
  have Il:W6.heap[W5.heap.size]?=some (.cells #[.string k,.string t,.int .i64 f,.int .i64 e,.slice a n c] 49 (0,0)):=by rw [← VP];exact aG W5 _
  have nW:=hid (mK.out.trans ((Mv.of_below hb6).mono mK.out.size));have Ad:Hid (Rd d lv o.at o.aA W6):=hid ((uW.out.1.below hb5).below hb6);have c6:=eZ d L lv o.at o.aA ⟨#[115,116,97,114]⟩ ⟨#[]⟩ fr (some ⟨W5.heap.size,0,none⟩) 1 1 W6 Ad.out (HT1.out.mv nW.out (ae _)) (Hg.out.le) hL;obtain ⟨e6,Te⟩:∃ e6,jY L o.at=e6:=⟨_,rfl⟩;rw [Te] at c6;have sN:=hid hb5;have VG:=hid Il;have HE6:=hid Te;clear Il hb6 hb5 Te
  go_wp2_with fail
  refine c6.mono ?_;rintro x w7 ⟨rfl,hw7⟩;have iN:=hid (nW.out.trans (hw7.2.mono nW.out.size));have ow:=(af.1 jD.out).1;have jd:w7.heap[w.heap.size]?=_:=(iN.out.block w.heap.size ow (by omega)).trans jD.out;obtain ⟨⟨r0,r1,r2,r3,r4⟩,gz⟩:=aF jd;have g0:=gz 0;have g1:=gz 1;have g2:=gz 2;have g3:=gz 3;have g4:=gz 4;have pQ:=hid jd;have sD:=hid hw7;have Xb:=hid VP;clear c6 hw7 jd xO gz fz p0 p1 p2 p3 p4 VP
  go_wp2_with fail
  have hp:=dS (a':=.string ⟨#[115,116,97,114]⟩) (b':=.string ⟨#[]⟩) (c':=.int .i64 fr) (d':=.int .i64 e6) (e':=.slice (some ⟨W5.heap.size,0,none⟩) 1 1) pQ.out;refine aB (v:=.agg #[.string ⟨#[115,116,97,114]⟩,.string ⟨#[]⟩,.int .i64 fr,.int .i64 e6,.slice (some ⟨W5.heap.size,0,none⟩) 1 1]) (aQ rfl _ _ w.heap.size 49 #[.string ⟨#[115,116,97,114]⟩,.string ⟨#[]⟩,.int .i64 fr,.int .i64 e6,.slice (some ⟨W5.heap.size,0,none⟩) 1 1] (0,0) _ (by rfl) hp Tryz.underlying49 rfl (by kernel_rfl)) rfl ?_;rw [← HQ.out,qW.out];have s1:=dP.out.size;have s3:=lq.out.size;have s4:=uW.out.2.size;have s5:=sN.out.size;have s6:=(af.1 VG.out).1;have hs:Mv w4.heap.size d w4 w7:=(Mv.of_below sN.out).trans (((Mv.of_below (by rw [← Xb.out];exact (aj _ W5).alloc (ae _) _)).trans (sD.out.2.mono (by rw [← Xb.out];simp))).mono s5);refine dO hd (dP.out.trans (iN.out.mono s1)) sD.out.1 (rP _).1 (rP _).2 ?_ ⟨ae _,ae _⟩
  exact Ap (K:=vk) (T:=[]) HV.out (hs.still (ae _) (fun g hg=>by omega)) ((sD.out.2.block _ s6 (by omega)).trans VG.out) (fun g hg=>by omega) (by omega) (by exact HE6.out)
theorem tO (d:Nat) (L:List aZ) (lv:Value) (hL:L.length≤1000000):∀ n,Hf d L lv n:=by
 intro n
 induction n with
 | zero=>exact DT d L lv hL 0 fun m h=>by omega
 | succ m ih=>exact DT d L lv hL (m+1) (fun k hk=>(Nat.succ.inj hk) ▸ ih)
structure oZ (L:List aZ) (i:Nat) (b:Bool) {α:Type} (o:Out α):Prop where
 ge:i≤o.at
 le:o.at≤L.length
 so:o.aA=false→b=false
theorem oZ.begun {L:List aZ} {i:Nat} {b:Bool} {α:Type} {o:Out α} (hi:i≤L.length) (h:Fw L i o):oZ L i b (start b i o):=by
 cases b
 ·exact ⟨h.ge,h.le,fun _=>rfl⟩
 ·exact ⟨ae _,hi,fun h=>by cases h⟩
theorem oZ.step {L:List aZ} {i:Nat} {b:Bool} {α β:Type} {o:Out α} {u:Out β} (h:oZ L i b o) (hu:Fw L o.at u):oZ L i b (start o.aA o.at u):=by
 cases hb:o.aA
 ·exact ⟨aJ h.ge hu.ge,hu.le,fun _=>h.so hb⟩
 ·exact ⟨h.ge,h.le,fun h=>by cases h⟩
theorem uF {α β:Type} (b:Bool) (i:Nat) (m:Out α) (f:α→Nat→Out β):start b i (m.next f)=(start b i m).next f:=by cases b <;> rfl
theorem Pk {W:World} {q:Nat} {cs:Array Value} {ty:TypeId} (h:W.heap[q]?=some (.cells cs ty (0,0))):dK W q 0 cs.toList:=by
 intro j u hj;rw [bz]
 unfold World.cell?
 rw [h]
 simpa using hj
theorem jF {x:Pt} {k t:ByteArray} {f e:Int} {sl:Value} (hv:(.agg #[.string k,.string t,.int .i64 f,.int .i64 e,sl]:Value)=.agg (five x sl).toArray):[.string k,.string t,.int .i64 f,.int .i64 e,sl]=five x sl:=by
 have h1:=congrArg (fun v:Value=>match v with|.agg xs=>xs.toList|_=>[]) hv
 simpa using h1
theorem kN {W:World} {R:Nat→Prop} {O:Out Pt} {kv tv:ByteArray} {F E:Int} {q n c:Nat} {cs:Array Value} {ty:TypeId} (hq:W.heap[q]?=some (.cells cs ty (0,0))) (hR:R q)
  (h:∀ p j,O=.ok p j→∃ K T ks,p=.mk K T F E ks∧aU K=kv∧aU T=tv∧ks.length=n∧aO W R ks cs.toList) (hn:n≤1000000) (hc:n≤c) :
  qh W R O (.agg #[.string kv,.string tv,.int .i64 F,.int .i64 E,.slice (some ⟨q,0,none⟩) n c]):=by
 refine ⟨_,_,_,_,_,_,_,rfl,hn,?_⟩;intro p j fQ;obtain ⟨K,T,ks,rfl,rfl,rfl,rfl,h5⟩:=h p j fQ
 exact ⟨rfl,_,_,rfl,hc,.inr ⟨q,0,_,rfl,hR,Pk hq,h5⟩⟩
theorem Ng {L:List aZ} {nm:Out By} {K:By} {F:Int} (g:Nat→Out Pt):(nm.next fun s j=>(g j).next fun x k=>part L K s F [x] k).at=(start nm.aA nm.at (g nm.at)).at∧(nm.next fun s j=>(g j).next fun x k=>part L K s F [x] k).aA=(start nm.aA nm.at (g nm.at)).aA:=by
 cases nm with
 | bad j=>exact ⟨rfl,rfl⟩
 | ok s j=>exact rP (o:=g j) (fun x=>[x])
theorem Nh {L:List aZ} {nm:Out By} {K:By} {F:Int} (g:Nat→Out Pt) {p:Pt} {j:Nat} (h:(nm.next fun s j=>(g j).next fun x k=>part L K s F [x] k)=.ok p j) :
  ∃ K' T x,p=.mk K' T F (jY L (start nm.aA nm.at (g nm.at)).at) [x]∧aU K'=aU K∧aU T=xy nm∧∃ jx,start nm.aA nm.at (g nm.at)=.ok x jx:=by
 cases nm with
 | bad j=>cases h
 | ok s j' =>
  have h':((g j').next fun x k=>part L K s F [x] k)=.ok p j:=h
  show ∃ K' T x,p=.mk K' T F (jY L (g j').at) [x]∧aU K'=aU K∧aU T=aU s∧∃ jx,g j'=.ok x jx
  cases hg:g j' with
  | bad k=>rw [hg] at h';cases h'
  | ok x k =>
   rw [hg] at h';simp only [Out.next,part,Out.ok.injEq] at h';obtain ⟨rfl,rfl⟩:=h'
   exact ⟨K,s,x,rfl,rfl,rfl,k,rfl⟩
theorem FK (d:Nat) (L:List aZ) (lv:Value) (hL:L.length≤1000000) (n:Nat) (kind:By) (i:Nat) (b:Bool) (w:World) (hR:Rd d lv i b w) (hT:Tk d L lv w) (hi:i≤L.length) (hn:b=false→2*(L.length - i)+1≤n) :
  Calls Tryz.prog 63 #[.pointer (some ⟨d,0,none⟩),.string (aU kind)] w (Reads d lv (start b i (param L n kind i)) w):=by
 obtain ⟨nm,hnm⟩:∃ u,start b i (gK L i)=u:=⟨_,rfl⟩;obtain ⟨sv,hsv⟩:∃ u,xy nm=u:=⟨_,rfl⟩;obtain ⟨o,ho⟩:∃ u,start nm.aA nm.at (typed L n nm.at)=u:=⟨_,rfl⟩;obtain ⟨fr,hfr⟩:∃ u,bQ L i=u:=⟨_,rfl⟩;obtain ⟨O,hO⟩:∃ u,start b i (param L n kind i)=u:=⟨_,rfl⟩
 have TU:O=nm.next fun s j=>(typed L n j).next fun x k=>part L kind s fr [x] k:=by
  rw [← hO,← hfr,← hnm,← uF]
  rfl
 obtain ⟨kv,NF⟩:∃ kv,aU kind=kv:=⟨_,rfl⟩;rw [NF];have HAT:Hid (O.at=o.at∧O.aA=o.aA):=hid (by rw [TU,← ho];exact Ng _);have Ni:Hid (∀ p j,O=.ok p j→∃ K T x,p=.mk K T fr (jY L o.at) [x]∧aU K=kv∧aU T=sv∧∃ jx,o=.ok x jx):=hid (by intro p j fQ;rw [TU] at fQ;rw [← NF];rw [← ho,← hsv];exact Nh _ fQ);have rQ:Hid (oZ L i b nm):=hid (by rw [← hnm];exact .begun hi (jw hi).toFw);have HFo:Hid (oZ L i b o):=hid (by rw [← ho];exact rQ.out.step (jy n _ rQ.out.le).toFw);have TV:=hid hnm;have Tf:=hid hsv;have Ho:=hid ho;have Aq:=hid hfr;rw [hO];clear  hnm hsv ho hfr hO TU NF;have hd:=hR.lt;obtain ⟨W1,hW1⟩:∃ W1,w.alloc gB=W1:=⟨_,rfl⟩
 have hb1:Below w.heap.size w W1:=by rw [← hW1];exact (aj _ w).alloc (ae _) _
 have dP:=hid (Mv.of_below (d:=d) hb1)
 have hq1:W1.heap[w.heap.size]?=some (.cells #[.string ⟨#[]⟩,.string ⟨#[]⟩,.int .i64 0,.int .i64 0,.slice none 0 0] 49 (0,0)):=by rw [← hW1];exact aG w _
 have lL:Rd d lv i b W1:=hR.below hb1;have hT1:=hT.mv (Mv.of_below hb1) (ae _);have c1:=mZ d L lv i b W1 lL hT1;rw [Aq.out] at c1;have HW1:=hid hW1;have jD:=hid hq1;have HR1:=hid lL;have HT1:=hid hT1;have HN:=hid hn;obtain ⟨Q,hQ⟩:∃ Q,Reads d lv O w=Q:=⟨_,rfl⟩;have HQ:=hid hQ;rw [hQ];clear hW1 hq1 hb1 lL hT1 hn hQ hR hT
 go_enter Tryz.func63,Tryz.ntmps63
 go_wp2_with fail
 rw [HW1.out];refine c1.mono ?_;intro x w2 h2;obtain ⟨rfl,hw2⟩:=h2.went HR1.out;have kG:=hid hw2.2;have HR2:=hid hw2.1;clear c1 h2 hw2;have c3:=nH d L lv i b w2 HR2.out (HT1.out.mv kG.out (ae _)) (by have:=hi;omega);rw [TV.out,Tf.out] at c3
 go_wp2_with fail
 refine c3.mono ?_;rintro x w3 ⟨rfl,hw3⟩;have lq:=hid (kG.out.trans (hw3.2.mono kG.out.size));have HR3:=hid hw3.1
 skip
 clear c3 hw3;have c4:=tO d L lv hL n nm.at nm.aA w3 HR3.out (HT1.out.mv lq.out (ae _)) rQ.out.le (fun h=>by have:=HN.out (rQ.out.so h);have:=rQ.out.ge;omega);rw [Ho.out] at c4
 go_wp2_with fail
 refine c4.mono ?_;rintro x w4 ⟨v,rfl,⟨jQ,jR,jS,jT,jU,jV,jW,rfl,-,ng⟩,hw4⟩;have rU:=hid ng;have jb:=hid hw4;clear c4 ng hw4
 go_upto_region 4 with fail
 obtain ⟨oG,ji⟩:∃ q,w4.heap.size=q:=⟨_,rfl⟩;obtain ⟨V4,VQ⟩:∃ V,w4.alloc (.cells #[.string jQ,.string jR,.int .i64 jS,.int .i64 jT,.slice jU jV jW] 49)=V:=⟨_,rfl⟩
 have hb4:Below w4.heap.size w4 V4:=by rw [← VQ];exact (aj _ w4).alloc (ae _) _
 have ni:Hid (V4.heap[oG]?=some (.cells #[.string jQ,.string jR,.int .i64 jS,.int .i64 jT,.slice jU jV jW] 49 (0,0))):=hid (by rw [← VQ,← ji];exact aG w4 _);have lK:Hid (Mv w4.heap.size d w4 V4):=hid (Mv.of_below hb4);have jJ:Hid (W1.heap.size≤w3.heap.size∧w3.heap.size≤w4.heap.size∧oG=w4.heap.size):=hid ⟨lq.out.size,jb.out.2.size,ji.symm⟩;rw [VQ,ji];have mJ:=hid ((lq.out.trans (jb.out.2.mono lq.out.size)).trans ((Mv.of_below hb4).mono (aJ lq.out.size jb.out.2.size)));have HR4:=hid (jb.out.1.below hb4)
 skip
 clear VQ hb4 ji;have xX:Hid (Mv V4.heap.size d V4 V4):=hid (Mv.refl _ _ _);have ma:=(xX.out.block oG (af.1 ni.out).1 (by have:=jJ.out;have:=dP.out.size;omega)).trans ni.out;obtain ⟨⟨vY,vZ,wm,wu,wy⟩,-⟩:=aF ma;have Tg:=hid ma;clear ma;obtain ⟨z,hz⟩:∃ z,V4.heap.size=z:=⟨_,rfl⟩;obtain ⟨Z,hZ⟩:∃ Z,V4.alloc (.cells #[.string jQ,.string jR,.int .i64 jS,.int .i64 jT,.slice jU jV jW] 49)=Z:=⟨_,rfl⟩
 have hzb:Below V4.heap.size V4 Z:=by rw [← hZ];exact (aj _ V4).alloc (ae _) _
 have xz:Hid (Z.heap[z]?=some (.cells #[.string jQ,.string jR,.int .i64 jS,.int .i64 jT,.slice jU jV jW] 49 (0,0))):=hid (by rw [← hZ,← hz];exact aG V4 _);have qi:=hid (mJ.out.trans ((Mv.of_below hzb).mono mJ.out.size));have Bg:=hid (HR4.out.below hzb);have Ex:=hid (Mv.of_below (d:=d) hzb);have HZ:=hid hz;have cz:=eZ d L lv o.at o.aA kv sv fr (some ⟨z,0,none⟩) 1 1 Z Bg.out (HT1.out.mv qi.out (ae _)) HFo.out.le hL;obtain ⟨ez,jC⟩:∃ e,jY L o.at=e:=⟨_,rfl⟩;rw [jC] at cz;have sH:=hid jC;rw [← hz] at cz;clear hzb jC hz
 go_wp2_with fail
 try rw [hZ]
 refine cz.mono ?_;rintro x w7 ⟨rfl,hw7⟩;have iN:=hid (qi.out.trans (hw7.2.mono qi.out.size));have ow:=(af.1 jD.out).1;have jd:w7.heap[w.heap.size]?=_:=(iN.out.block w.heap.size ow (by omega)).trans jD.out;obtain ⟨⟨r0,r1,r2,r3,r4⟩,gz⟩:=aF jd;have g0:=gz 0;have g1:=gz 1;have g2:=gz 2;have g3:=gz 3;have g4:=gz 4;have pQ:=hid jd;have sD:=hid hw7;have xq:=hid hZ;clear cz hw7 jd gz hZ vY vZ wm wu wy
 go_wp2_with fail
 have hp:=dS (a':=.string kv) (b':=.string sv) (c':=.int .i64 fr) (d':=.int .i64 ez) (e':=.slice (some ⟨V4.heap.size,0,none⟩) 1 1) pQ.out;refine aB (v:=.agg #[.string kv,.string sv,.int .i64 fr,.int .i64 ez,.slice (some ⟨V4.heap.size,0,none⟩) 1 1]) (aQ rfl _ _ w.heap.size 49 #[.string kv,.string sv,.int .i64 fr,.int .i64 ez,.slice (some ⟨V4.heap.size,0,none⟩) 1 1] (0,0) _ (by rfl) hp Tryz.underlying49 rfl (by kernel_rfl)) rfl ?_;rw [← HQ.out];refine dO hd (dP.out.trans (iN.out.mono dP.out.size)) sD.out.1 HAT.out.1 HAT.out.2 ?_ ⟨ae _,ae _⟩;have hsz:=dP.out.size;have yA:w7.heap[z]?=_:=(sD.out.2.block z (af.1 xz.out).1 (by have:=mJ.out.size;have:=HZ.out;omega)).trans xz.out;rw [HZ.out];refine kN yA (by have:=mJ.out.size;have:=HZ.out;omega) (fun p j fQ=>?_) (by omega) (ae _);obtain ⟨K,T,uG,h0,hK,hT,Ar,hx0⟩:=Ni.out p j fQ;refine ⟨K,T,[uG],by rw [← sH.out];exact h0,hK,hT,rfl,?_⟩;obtain ⟨LW,xY⟩:=rU.out uG Ar hx0;have J4:Mv w4.heap.size d w4 w7:=lK.out.trans (((xX.out.trans (Ex.out.mono xX.out.size)).trans (sD.out.2.mono (aJ xX.out.size Ex.out.size))).mono lK.out.size);have LX:=xY.later (R':=fun g=>w.heap.size<g) (J4.still (ae _) (fun g hg=>by have:=jJ.out;omega)) (fun g hg=>by have:=jJ.out;omega)
 show aO w7 _ _ ([.string jQ,.string jR,.int .i64 jS,.int .i64 jT,.slice jU jV jW]++[])
 rw [jF LW]
 exact ⟨_,_,rfl,LX,rfl⟩
theorem zt (d:Nat) (L:List aZ) (lv:Value) (hL:L.length≤1000000) (n i:Nat) (b:Bool) (w:World) (hR:Rd d lv i b w) (hT:Tk d L lv w) (hi:i≤L.length) (hn:b=false→2*(L.length - i)+1≤n) :
  Calls Tryz.prog 42 #[.pointer (some ⟨d,0,none⟩)] w (Reads d lv (start b i (iX L n i)) w):=by
 obtain ⟨om,mE⟩:∃ u,start b i (bI L jg i)=u:=⟨_,rfl⟩;obtain ⟨nm,hnm⟩:∃ u,start om.aA om.at (gK L om.at)=u:=⟨_,rfl⟩;obtain ⟨sv,hsv⟩:∃ u,xy nm=u:=⟨_,rfl⟩;obtain ⟨o,ho⟩:∃ u,start nm.aA nm.at (typed L n nm.at)=u:=⟨_,rfl⟩;obtain ⟨fr,hfr⟩:∃ u,bQ L i=u:=⟨_,rfl⟩;obtain ⟨O,hO⟩:∃ u,start b i (iX L n i)=u:=⟨_,rfl⟩
 have TU:O=nm.next fun s j=>(typed L n j).next fun x k=>part L jg s fr [x] k:=by
  rw [← hO,← hfr,← hnm,← DL om (gK L),qV,← mE,← uF]
  rfl
 have HAT:Hid (O.at=o.at∧O.aA=o.aA):=hid (by rw [TU,← ho];exact Ng _);have Ni:Hid (∀ p j,O=.ok p j→∃ K T x,p=.mk K T fr (jY L o.at) [x]∧aU K=⟨#[118,97,114]⟩∧aU T=sv∧∃ jx,o=.ok x jx):=hid (by intro p j fQ;rw [TU] at fQ;rw [← ho,← hsv];exact Nh _ fQ);have qj:Hid (oZ L i b om):=hid (by rw [← mE];exact .begun hi (bU _ hi).toFw);have rQ:Hid (oZ L i b nm):=hid (by rw [← hnm];exact qj.out.step (jw qj.out.le).toFw);have HFo:Hid (oZ L i b o):=hid (by rw [← ho];exact rQ.out.step (jy n _ rQ.out.le).toFw);have Hq:=hid mE;have TV:=hid hnm;have Tf:=hid hsv;have Ho:=hid ho;have Aq:=hid hfr;rw [hO];clear mE hnm hsv ho hfr hO TU;have hd:=hR.lt;obtain ⟨W1,hW1⟩:∃ W1,w.alloc gB=W1:=⟨_,rfl⟩
 have hb1:Below w.heap.size w W1:=by rw [← hW1];exact (aj _ w).alloc (ae _) _
 have dP:=hid (Mv.of_below (d:=d) hb1)
 have hq1:W1.heap[w.heap.size]?=some (.cells #[.string ⟨#[]⟩,.string ⟨#[]⟩,.int .i64 0,.int .i64 0,.slice none 0 0] 49 (0,0)):=by rw [← hW1];exact aG w _
 have lL:Rd d lv i b W1:=hR.below hb1;have hT1:=hT.mv (Mv.of_below hb1) (ae _);have c1:=mZ d L lv i b W1 lL hT1;rw [Aq.out] at c1;have HW1:=hid hW1;have jD:=hid hq1;have HR1:=hid lL;have HT1:=hid hT1;have HN:=hid hn;obtain ⟨Q,hQ⟩:∃ Q,Reads d lv O w=Q:=⟨_,rfl⟩;have HQ:=hid hQ;rw [hQ];clear hW1 hq1 hb1 lL hT1 hn hQ hR hT
 go_enter Tryz.func42,Tryz.ntmps42
 go_wp2_with fail
 rw [HW1.out];refine c1.mono ?_;intro x w2 h2;obtain ⟨rfl,hw2⟩:=h2.went HR1.out;have kG:=hid hw2.2;have HR2:=hid hw2.1;clear c1 h2 hw2;have c3:=jf d L lv i b jg w2 HR2.out (HT1.out.mv kG.out (ae _)) (by have:=hi;omega);rw [Hq.out,show aU jg=⟨#[118,97,114]⟩ from rfl] at c3
 go_wp2_with fail
 refine c3.mono ?_;rintro x w3 ⟨rfl,hw3⟩;have lq:=hid (kG.out.trans (hw3.2.mono kG.out.size));have HR3:=hid hw3.1
 skip
 clear c3 hw3;have c4:=nH d L lv om.at om.aA w3 HR3.out (HT1.out.mv lq.out (ae _)) (by have:=qj.out.le;omega);rw [TV.out,Tf.out] at c4
 go_wp2_with fail
 refine c4.mono ?_;rintro x w4 ⟨rfl,hw4⟩;have mJ:=hid (lq.out.trans (hw4.2.mono lq.out.size));have HR4:=hid hw4.1
 skip
 clear c4 hw4;have c5:=tO d L lv hL n nm.at nm.aA w4 HR4.out (HT1.out.mv mJ.out (ae _)) rQ.out.le (fun h=>by have:=HN.out (rQ.out.so h);have:=rQ.out.ge;omega);rw [Ho.out] at c5
 go_wp2_with fail
 refine c5.mono ?_;rintro x w5 ⟨v,rfl,⟨jQ,jR,jS,jT,jU,jV,jW,rfl,-,ng⟩,jA⟩;have rU:=hid ng;have jb:=hid jA;clear c5 ng jA
 go_upto_region 5 with fail
 obtain ⟨oG,ji⟩:∃ q,w5.heap.size=q:=⟨_,rfl⟩;obtain ⟨V5,PZ⟩:∃ V,w5.alloc (.cells #[.string jQ,.string jR,.int .i64 jS,.int .i64 jT,.slice jU jV jW] 49)=V:=⟨_,rfl⟩
 have hb5:Below w5.heap.size w5 V5:=by rw [← PZ];exact (aj _ w5).alloc (ae _) _
 have ni:Hid (V5.heap[oG]?=some (.cells #[.string jQ,.string jR,.int .i64 jS,.int .i64 jT,.slice jU jV jW] 49 (0,0))):=hid (by rw [← PZ,← ji];exact aG w5 _);have lK:Hid (Mv w5.heap.size d w5 V5):=hid (Mv.of_below hb5);have jJ:Hid (W1.heap.size≤w4.heap.size∧w4.heap.size≤w5.heap.size∧oG=w5.heap.size):=hid ⟨mJ.out.size,jb.out.2.size,ji.symm⟩;rw [PZ,ji];have mK:=hid ((mJ.out.trans (jb.out.2.mono mJ.out.size)).trans ((Mv.of_below hb5).mono (aJ mJ.out.size jb.out.2.size)));have uV:=hid (jb.out.1.below hb5)
 skip
 clear PZ hb5 ji;have xZ:Hid (Mv V5.heap.size d V5 V5):=hid (Mv.refl _ _ _);have ma:=(xZ.out.block oG (af.1 ni.out).1 (by have:=jJ.out;have:=dP.out.size;omega)).trans ni.out;obtain ⟨⟨vY,vZ,wm,wu,wy⟩,-⟩:=aF ma;have Tg:=hid ma;clear ma;obtain ⟨z,hz⟩:∃ z,V5.heap.size=z:=⟨_,rfl⟩;obtain ⟨Z,hZ⟩:∃ Z,V5.alloc (.cells #[.string jQ,.string jR,.int .i64 jS,.int .i64 jT,.slice jU jV jW] 49)=Z:=⟨_,rfl⟩
 have hzb:Below V5.heap.size V5 Z:=by rw [← hZ];exact (aj _ V5).alloc (ae _) _
 have xz:Hid (Z.heap[z]?=some (.cells #[.string jQ,.string jR,.int .i64 jS,.int .i64 jT,.slice jU jV jW] 49 (0,0))):=hid (by rw [← hZ,← hz];exact aG V5 _);have qi:=hid (mK.out.trans ((Mv.of_below hzb).mono mK.out.size));have Bg:=hid (uV.out.below hzb);have Ex:=hid (Mv.of_below (d:=d) hzb);have HZ:=hid hz;have cz:=eZ d L lv o.at o.aA ⟨#[118,97,114]⟩ sv fr (some ⟨z,0,none⟩) 1 1 Z Bg.out (HT1.out.mv qi.out (ae _)) HFo.out.le hL;obtain ⟨ez,jC⟩:∃ e,jY L o.at=e:=⟨_,rfl⟩;rw [jC] at cz;have sH:=hid jC;rw [← hz] at cz;clear hzb jC hz
 go_wp2_with fail
 try rw [hZ]
 refine cz.mono ?_;rintro x w7 ⟨rfl,hw7⟩;have iN:=hid (qi.out.trans (hw7.2.mono qi.out.size));have ow:=(af.1 jD.out).1;have jd:w7.heap[w.heap.size]?=_:=(iN.out.block w.heap.size ow (by omega)).trans jD.out;obtain ⟨⟨r0,r1,r2,r3,r4⟩,gz⟩:=aF jd;have g0:=gz 0;have g1:=gz 1;have g2:=gz 2;have g3:=gz 3;have g4:=gz 4;have pQ:=hid jd;have sD:=hid hw7;have xq:=hid hZ;clear cz hw7 jd gz hZ vY vZ wm wu wy
 go_wp2_with fail
 have hp:=dS (a':=.string ⟨#[118,97,114]⟩) (b':=.string sv) (c':=.int .i64 fr) (d':=.int .i64 ez) (e':=.slice (some ⟨V5.heap.size,0,none⟩) 1 1) pQ.out;refine aB (v:=.agg #[.string ⟨#[118,97,114]⟩,.string sv,.int .i64 fr,.int .i64 ez,.slice (some ⟨V5.heap.size,0,none⟩) 1 1]) (aQ rfl _ _ w.heap.size 49 #[.string ⟨#[118,97,114]⟩,.string sv,.int .i64 fr,.int .i64 ez,.slice (some ⟨V5.heap.size,0,none⟩) 1 1] (0,0) _ (by rfl) hp Tryz.underlying49 rfl (by kernel_rfl)) rfl ?_;rw [← HQ.out];refine dO hd (dP.out.trans (iN.out.mono dP.out.size)) sD.out.1 HAT.out.1 HAT.out.2 ?_ ⟨ae _,ae _⟩;have hsz:=dP.out.size;have yA:w7.heap[z]?=_:=(sD.out.2.block z (af.1 xz.out).1 (by have:=mK.out.size;have:=HZ.out;omega)).trans xz.out;rw [HZ.out];refine kN yA (by have:=mK.out.size;have:=HZ.out;omega) (fun p j fQ=>?_) (by omega) (ae _);obtain ⟨K,T,uG,h0,hK,hT,Ar,hx0⟩:=Ni.out p j fQ;refine ⟨K,T,[uG],by rw [← sH.out];exact h0,hK,hT,rfl,?_⟩;obtain ⟨LW,xY⟩:=rU.out uG Ar hx0;have J4:Mv w5.heap.size d w5 w7:=lK.out.trans (((xZ.out.trans (Ex.out.mono xZ.out.size)).trans (sD.out.2.mono (aJ xZ.out.size Ex.out.size))).mono lK.out.size);have LX:=xY.later (R':=fun g=>w.heap.size<g) (J4.still (ae _) (fun g hg=>by have:=jJ.out;omega)) (fun g hg=>by have:=jJ.out;omega)
 show aO w7 _ _ ([.string jQ,.string jR,.int .i64 jS,.int .i64 jT,.slice jU jV jW]++[])
 rw [jF LW]
 exact ⟨_,_,rfl,LX,rfl⟩
theorem lC (x:By):(aU x).toList=x:=by rw [aU,bu]
theorem zu (t:aZ) (w:World):Calls Tryz.prog 129 #[.agg #[.int .i64 t.w,.string (aU t.t),.int .i64 t.f,.int .i64 t.e]] w fun e w'=>e=.returned (.int .i64 (vg t))∧Below w.heap.size w w':=by
 obtain ⟨tw,tt,tf,te⟩:=t;obtain ⟨v,hv⟩:∃ v,vg ⟨tw,tt,tf,te⟩=v:=⟨_,rfl⟩;rw [hv];have HV:=hid hv;dsimp only;clear hv
 go_enter Tryz.func129,Tryz.ntmps129
 go_wp2_with fail
 all_goals
  go_ret
  refine ⟨?_,(aj _ w).alloc (ae _) _⟩;rw [← HV.out];clear HV
  simp_all [vg,lC]
end T
namespace T
open Go.Lib hiding intOf
open U S
section
variable (L:List aZ)
theorem FL (n:Nat) (than:Int) (i:Nat):expr L (n+1) than i=(cu L n i).next fun a j=>exprs L n than (bQ L i) a j:=by rw [expr]
theorem uH (n:Nat) (than f:Int) (a:Pt) (i:Nat):exprs L (n+1) than f a i =
  if i<L.length∧than<fI L i then (expr L n (fI L i) (i+1)).next fun b j=>exprs L n than f (.mk dI (dz L i) f (jY L j) [a,b]) j else .ok a i:=by rw [exprs]
theorem uI (n i:Nat):cu L (n+1) i =
  if bG L [38] i then (cu L n (i+1)).next fun e j=>part L jL [38] (bQ L i) [e] j
  else if bG L [42] i then (cu L n (i+1)).next fun e j=>part L jL [42] (bQ L i) [e] j
  else if bG L [45] i then (cu L n (i+1)).next fun e j=>part L jL [45] (bQ L i) [e] j
  else if bG L [33] i then (cu L n (i+1)).next fun e j=>part L jL [33] (bQ L i) [e] j
  else (operand L n i).next fun a j=>tails L n (bQ L i) a j:=by rw [cu]
theorem DU (n:Nat) (f:Int) (a:Pt) (i:Nat):tails L (n+1) f a i =
  if bG L [46] i then (gK L (i+1)).next fun s j=>tails L n f (.mk jh s f (jY L j) [a]) j
  else if bG L [91] i then (expr L n 0 (i+1)).next fun e j=>(bI L [93] j).next fun _ k=>tails L n f (.mk lD [] f (jY L k) [a,e]) k
  else .ok a i:=by rw [tails]
theorem oz (n i:Nat):operand L (n+1) i =
  if bT L 1 i then part L Iy (dz L i) (bQ L i) [] (i+1)
  else if bT L 2 i then part L Iz (dz L i) (bQ L i) [] (i+1)
  else if bG L [40] i then (expr L n 0 (i+1)).next fun e j=>(bI L [41] j).next fun _ k=>.ok e k
  else (gK L i).next fun s j =>
   if bG L [40] j=false then part L P9 s (bQ L i) [] j
   else if s=pU then (typed L n (j+1)).next fun x k=>(bI L [41] k).next fun _ m=>part L pU [] (bQ L i) [x] m
   else if s=jM then (typed L n (j+1)).next fun x k=>(bI L [44] k).next fun _ m=>(expr L n 0 m).next fun e o=>(bI L [41] o).next fun _ p=>part L jM [] (bQ L i) [x,e] p
   else if bG L [41] (j+1) then part L mO s (bQ L i) [] (j+2)
   else (args L n (j+1) []).next fun l k=>part L mO s (bQ L i) l k:=by rw [operand]
theorem FM (n i:Nat) (acc:List Pt):args L (n+1) i acc =
  (expr L n 0 i).next fun a j=>if bG L [41] j then .ok (acc++[a]) (j+1) else (bI L [44] j).next fun _ k=>args L n k (acc++[a]):=by rw [args]
theorem Pm (than:Int) (i:Nat):expr L 0 than i=.bad i:=by rw [expr]
theorem LY (than f:Int) (a:Pt) (i:Nat):exprs L 0 than f a i=.bad i:=by rw [exprs]
theorem Hr (i:Nat):cu L 0 i=.bad i:=by rw [cu]
theorem LZ (f:Int) (a:Pt) (i:Nat):tails L 0 f a i=.bad i:=by rw [tails]
theorem Ht (i:Nat):operand L 0 i=.bad i:=by rw [operand]
theorem Pn (i:Nat) (acc:List Pt):args L 0 i acc=.bad i:=by rw [args]
end
section
variable {L:List aZ}
theorem Fw.bad {α:Type} {i:Nat} (hi:i≤L.length):Fw L i (.bad i:Out α):=⟨ae _,hi⟩
structure Y1 (L:List aZ) (n:Nat):Prop where
 expr:∀ i,i≤L.length→∀ than,vW L i (expr L n than i)
 exprs:∀ i,i≤L.length→∀ than f a,Fw L i (exprs L n than f a i)
 cu:∀ i,i≤L.length→vW L i (cu L n i)
 tails:∀ i,i≤L.length→∀ f a,Fw L i (tails L n f a i)
 operand:∀ i,i≤L.length→vW L i (operand L n i)
 args:∀ i,i≤L.length→∀ acc,vW L i (args L n i acc)
theorem iK:∀ n,Y1 L n
 | 0=>⟨fun i hi _=>by rw [Pm];exact .bad hi,fun i hi _ _ _=>by rw [LY];exact .bad hi,fun i hi=>by rw [Hr];exact .bad hi,fun i hi _ _=>by rw [LZ];exact .bad hi,fun i hi=>by rw [Ht];exact .bad hi,fun i hi _=>by rw [Pn];exact .bad hi⟩
 | n+1=>by
  have ih:=iK n
  refine ⟨?_,?_,?_,?_,?_,?_⟩
  ·intro i hi than
   rw [FL]
   exact (ih.cu i hi).next fun a j _ _ hj=>ih.exprs j hj _ _ _
  ·intro i hi than f a
   rw [uH]
   by_cases h:i<L.length∧than<fI L i
   ·rw [ay h]
    exact ((ih.expr (i+1) h.1 _).next fun b j _ _ hj=>ih.exprs j hj _ _ _).toFw.mono (dZ _)
   ·rw [ai h];exact .ok (ae _) hi _
  ·intro i hi
   rw [uI]
   have pr:∀ x:By,bG L x i=true→vW L i ((cu L n (i+1)).next fun e j=>part L jL x (bQ L i) [e] j):=fun x h =>
    ((ih.cu (i+1) (bR h)).next fun a j _ _ hj=>iJ _ _ _ _ hj).mono (dZ _)
   by_cases h:bG L [38] i=true
   ·rw [ay h];exact pr _ h
   rw [ai h]
   by_cases h:bG L [42] i=true
   ·rw [ay h];exact pr _ h
   rw [ai h]
   by_cases h:bG L [45] i=true
   ·rw [ay h];exact pr _ h
   rw [ai h]
   by_cases h:bG L [33] i=true
   ·rw [ay h];exact pr _ h
   rw [ai h]
   exact (ih.operand i hi).next fun a j _ _ hj=>ih.tails j hj _ _
  ·intro i hi f a
   rw [DU]
   by_cases h:bG L [46] i=true
   ·rw [ay h]
    exact ((jw (bR h)).next fun s j _ _ hj=>ih.tails j hj _ _).toFw.mono (dZ _)
   rw [ai h]
   by_cases h:bG L [91] i=true
   ·rw [ay h]
    exact ((ih.expr (i+1) (bR h) _).next fun s j _ _ hj=>((bU _ hj).next fun _ k _ _ hk=>ih.tails k hk _ _).toFw).toFw.mono (dZ _)
   ·rw [ai h];exact .ok (ae _) hi _
  ·intro i hi
   rw [oz]
   by_cases h:bT L 1 i=true
   ·rw [ay h];exact (iJ _ _ _ _ (gP h)).strict (eu _)
   rw [ai h]
   by_cases h:bT L 2 i=true
   ·rw [ay h];exact (iJ _ _ _ _ (gP h)).strict (eu _)
   rw [ai h]
   by_cases h:bG L [40] i=true
   ·rw [ay h]
    exact ((ih.expr (i+1) (bR h) _).next fun e j _ _ hj=>((bU _ hj).next fun _ k _ _ hk=>.ok (ae _) hk _).toFw).mono (dZ _)
   rw [ai h]
   refine (jw hi).next fun s j _ _ hj=>?_
   by_cases h:bG L [40] j=false
   ·rw [ay h];exact iJ _ _ _ _ hj
   rw [ai h];have hj1:j+1≤L.length:=bR (by simpa using h)
   by_cases h:s=pU
   ·rw [ay h]
    exact ((jy n (j+1) hj1).next fun x k _ _ hk=>((bU _ hk).next fun _ m _ _ hm=>iJ _ _ _ _ hm).toFw).toFw.mono (dZ _)
   rw [ai h]
   by_cases h:s=jM
   ·rw [ay h]
    exact ((jy n (j+1) hj1).next fun x k _ _ hk=>((bU _ hk).next fun _ m _ _ hm=>((ih.expr m hm _).next fun e o _ _ ho=>((bU _ ho).next fun _ p _ _ hp=>iJ _ _ _ _ hp).toFw).toFw).toFw).toFw.mono (dZ _)
   rw [ai h]
   by_cases h:bG L [41] (j+1)=true
   ·rw [ay h];exact (iJ _ _ _ _ (show j+2≤L.length from bR h)).mono (by omega)
   rw [ai h]
   exact ((ih.args (j+1) hj1 _).next fun l k _ _ hk=>iJ _ _ _ _ hk).toFw.mono (dZ _)
  ·intro i hi acc
   rw [FM]
   refine (ih.expr i hi _).next fun a j _ _ hj=>?_
   by_cases h:bG L [41] j=true
   ·rw [ay h];exact .ok (dZ _) (bR h) _
   ·rw [ai h]
    exact ((bU _ hj).next fun _ k _ _ hk=>(ih.args k hk _).toFw).toFw
end
end T
namespace T
open Go.RowKit
open Go.Lib hiding intOf
open U S L
mutual
theorem aT.live {W:World} {R:Nat→Prop}:∀ (p:Pt) (lv:Value),aT W R p lv→aT W (fun g=>R g∧g<W.heap.size) p lv
 | .mk k t f e ks,lv,h=>by
  obtain ⟨a,cap,h1,h0,h2⟩:=h;refine ⟨a,cap,h1,h0,?_⟩
  rcases h2 with h2|⟨g,off,xs,h3,h4,h5,h6⟩
  ·exact .inl h2
  ·cases ks with
   | nil=>exact .inl rfl
   | cons p r =>
    refine .inr ⟨g,off,xs,h3,⟨h4,?_⟩,h5,aO.live (p :: r) xs h6⟩;have hl:=aO.length h6
    have h7:0<xs.length:=by rw [hl,aH];omega
    exact bB W _ (h5 0 _ (aC h7))
theorem aO.live {W:World} {R:Nat→Prop}:∀ (l:List Pt) (xs:List Value),aO W R l xs→aO W (fun g=>R g∧g<W.heap.size) l xs
 | [],_,h=>h
 | p :: r,xs,h=>by
  obtain ⟨lv,rest,h1,h2,h3⟩:=h
  exact ⟨lv,rest,h1,aT.live p lv h2,aO.live r rest h3⟩
end
end T
end Go.Proofs.YtojoahlpgmnbnaaGreatDoor
