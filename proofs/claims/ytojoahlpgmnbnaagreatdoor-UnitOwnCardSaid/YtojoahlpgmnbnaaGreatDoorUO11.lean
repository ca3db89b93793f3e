/- What the claim needs of the texts KScan, KNew, JMem, KWt, JDeep. -/
import Derived.Test.YtojoahlpgmnbnaaGreatDoorUOOp
import Derived.Test.YtojoahlpgmnbnaaGreatDoorUO10
import Derived.Test.YtojoahlpgmnbnaaGreatDoorUO2
import Derived.Deep.QuietTactic
import Derived.Deep.LoopGhost
import Derived.Deep.RegionHeld3
import Derived.Deep.RegionWith
import Derived.BigQuiet
import Derived.BigRegion
import Derived.Deep.DeepCutAuto
import Derived.Test.YtojoahlpgmnbnaaGreatDoorUO9
import Derived.Laws.AppendOwn
import Derived.Laws.OwnMore
import Derived.OwnWalk
import Derived.Maps.AppendAt
set_option maxRecDepth 20000
set_option maxHeartbeats 16000000
namespace Go.Proofs.YtojoahlpgmnbnaaGreatDoor
namespace S
open Go.RowKit
open Go.Lib hiding intOf
open U L
theorem jr {B B' n size:Nat} {e:TypeId} {v:Value} {xs:List Value} {W:World} (h:W.ownsRow B' e size v n xs) (hB:B≤B'):W.ownsRow B e size v n xs:=by
 refine ⟨h.1,?_⟩
 rcases h.2 with h|⟨g,cap,cur,h1,h2,h3⟩
 ·exact .inl h
 ·exact .inr ⟨g,cap,cur,h1,aJ hB h2,h3⟩
theorem R8 (s:ByteArray) (w:World) (hs:s.size≤1099511627776) (hT:qI w) :
  Calls Tryz.prog 48 #[.string s] w fun e w'=>∃ v,e=.returned v∧w'.ownsRow w.heap.size 86 4 v (fH (okB s) s.toList).length (gp (fH (okB s) s.toList))∧Below w.heap.size w w':=by
 have cR:=Fe s w hs hT;obtain ⟨r,hr⟩:∃ r,okB s=r:=⟨_,rfl⟩;have Jd:Hid (nS r s 0 []):=hid (xN r s (fun h=>by rw [hr];exact h));rw [hr] at cR ⊢;clear hr
 go_enter Tryz.func48,Tryz.ntmps48
 go_wp2_with fail
 refine cR.mono ?_;rintro e w1 ⟨rfl,hb1⟩;have HB1:=hid hb1;clear cR hb1
 go_wp2_with fail
 obtain ⟨d,hd⟩:∃ d,w1.heap.size=d:=⟨_,rfl⟩;obtain ⟨W0,hW0⟩:∃ W,w1.alloc (.cells #[.string s,.bool r,.int .i64 0,.slice none 0 0] 107)=W:=⟨_,rfl⟩;have HB0:Hid (qR d s r ((0:Nat):Int) (.slice none 0 0) W0):=hid (by rw [← hd,← hW0];exact aG w1 _);have HL0:Hid (Below d w1 W0):=hid (by rw [← hW0];exact (aj d w1).alloc (by omega) _)
 have hwd:w.heap.size≤d:=by have:=HB1.out.size;omega
 rw [hd,hW0];clear hW0 hd
 go_loopw [] (fun wr=>∃ (i:Nat) (O:List aZ) (v:Value),i≤s.size∧Hid (qR d s r i v wr)∧Hid (Row d v O wr)∧Hid (nS r s i O)∧Hid (uQ (d+1) d W0 wr)) (fun wr=>s.size - Ja d wr)
 case atStart=>exact ⟨0,[],_,aL _,HB0,hid (dD _ _ _ _),Jd,hid (uQ.refl _ _ _)⟩
 case round =>
  obtain ⟨i,O,v,hi,HB,HR,HS,HM⟩:=hrel;clear Jd HB0;have h2:=HB.out.c2;have hat:=HB.out.at
  by_cases hlt:i<s.size
  ·have cS:=yS d s r i v O wr HB.out HR.out HS.out hlt hs
   go_wp2_with fail
   refine cS.mono ?_;rintro e w2 ⟨j,O2,hij,hjs,hS2,rfl,v2,hB2,hR2,hM2⟩;have El:=hB2.at;have HB2:=hid hB2;have HR2:=hid hR2;have HS2:=hid hS2;have kG:=hid (HM.out.trans hM2);clear cS hB2 hR2 hS2 hM2 h2
   go_wp2_with fail
   go_roundw
   case rel=>exact ⟨j,O2,v2,hjs,HB2,HR2,HS2,kG⟩
   case measure=>rw [hat,El];omega
  ·obtain rfl:i=s.size:=by omega
   have cM:=xR d s r s.size v O wr HB.out HR.out (by have:=HS.out.few;omega);clear hat
   go_wp2_with fail
   refine cM.mono ?_;rintro e w2 ⟨rfl,hb2⟩;have HB2:=hid (HB.out.below hb2);have HR2:Hid (Row d v O w2):=hid (aV HR.out hb2);have hdw:=HB.out.lt;have kG:Hid (uQ (d+1) d W0 w2):=hid (HM.out.trans (uQ.of_below (⟨hb2.os,hb2.tape,hb2.output,hb2.size,fun k hk=>hb2.block k (by omega)⟩:Below (d+1) wr w2)))
   have hfin:∀ (w':World),uQ (d+1) d W0 w'→Below w.heap.size w w':=fun w' hm =>
    HB1.out.trans ((HL0.out.trans ((hm.mono (dZ d)).below (ae d))).mono hwd)
   have HF:=hid hfin;clear cM hb2 h2 hfin
   cases hen:sS O
   ·have HX:Hid (fH r s.toList=O):=hid (by have h:=HS.out.all;rw [nE,hen] at h;simpa using h)
    have h3:=HB2.out.c3;clear hen
    go_wp2_with fail
    go_ret
    exact ⟨_,rfl,by rw [HX.out];exact jr HR2.out (by omega),HF.out _ kG.out⟩
   ·have HX:Hid (fH r s.toList=O++[⟨5,[],s.size,s.size⟩]):=hid (by have h:=HS.out.all;rw [nE,hen] at h;simpa using h)
    have cT:=fE d s r s.size 0 5 v O w2 HB2.out HR2.out (by have:=HS.out.few;omega) hs (by omega);rw [R7] at cT;clear hen
    go_wp2_with fail
    refine cT.mono ?_;rintro e w3 ⟨rfl,v3,hB3,Eh,uT⟩;have h3:=hB3.c3;have HR3:=hid Eh;have lq:=hid (kG.out.trans uT);clear cT hB3 Eh uT
    go_wp2_with fail
    go_ret
    exact ⟨_,rfl,by rw [HX.out];exact jr HR3.out (by omega),HF.out _ lq.out⟩
end S
namespace K
open Go.RowKit
open Go.Lib hiding intOf
open U S T
theorem aa3:(Tryz.prog.info? 86).map (fun i=>(i.zero,i.size,i.bytes))=some (some (.agg #[.int .i64 0,.string ⟨#[]⟩,.int .i64 0,.int .i64 0]),4,40):=by kernel_rfl
theorem p9 (t:aZ):∀ u∈qG t,u.oneCell'=true:=by
 intro u hu;simp only [qG,bA,ek,or_false] at hu
 rcases hu with rfl|rfl|rfl|rfl <;> rfl
theorem oV {B B' n m size aa4:Nat} {e e':TypeId} {v v':Value} {xs ys:List Value} {X X':World} (h:X.ownsRow B e size v n xs) (k:X.ownsRow B' e' aa4 v' m ys) (hne:e≠e') (hg:X.grownBy X' v'.ownBlock):X'.ownsRow B e size v n xs:=by
 refine h.kept hg ?_
 cases hv:v.ownBlock with
 | none=>simp
 | some b =>
  cases hv':v'.ownBlock with
  | none=>simp
  | some b' =>
   have:b≠b':=fun e1=>by
    subst e1
    exact hne ((dF h hv).one (dF k hv'))
   simp [this]
theorem lg (right:Bool):∀ (n:Nat) (l:By) (pos:Nat) (ended:Bool),(jK right n l pos ended).length≤n
 | 0,_,_,_=>ae _
 | n+1,[],pos,ended=>by simp only [jK];split <;> simp
 | n+1,c :: r,pos,ended=>by
  simp only [jK]
  split
  ·simp only [aH];exact iA (lg right n _ _ _)
  ·split
   ·exact bP (lg right n _ _ _)
   ·split
    ·exact bP (lg right n _ _ _)
    ·simp only [aH];exact iA (lg right n _ _ _)
theorem Ff (right:Bool) (l:By):(fH right l).length≤l.length+1:=lg right _ l 0 false
theorem ZN {X:World} {g:Nat} {o:Obj} (h:X.heap[g]?=some o):g<X.heap.size:=(af.1 h).1
theorem below_grown {m size:Nat} {e:TypeId} {v:Value} {ys:List Value} {W0 X X':World} (h:Below W0.heap.size W0 X) (k:X.ownsRow W0.heap.size e size v m ys) (hg:X.grownBy X' v.ownBlock):Below W0.heap.size W0 X':=h.grown hg h.size (fun b hb=>(k.lt b hb).1)
def vR:List Value:=[.string ⟨#[]⟩,.string ⟨#[]⟩,.int .i64 0,.int .i64 0,.slice none 0 0,.int .i64 0]
theorem U3 {W0 X:World} {L:List aZ} {size n g4 c4 g5:Nat} (hL:L.length=n) (hb:Below W0.heap.size W0 X) (h4:X.ownsRow W0.heap.size 86 4 (.slice (some ⟨g4,0,none⟩) (n+1) c4) (n+1) (gp L++qG (sV size))) (h5:X.ownsRow W0.heap.size 128 6 (.slice (some ⟨g5,0,none⟩) 1 1) 1 vR) :
  ∃ O,Mem X.heap.size L size (.slice (some ⟨g4,0,none⟩) (n+1) c4) ⟨0,[],[root]⟩ O (X.alloc (.cells #[.slice (some ⟨g4,0,none⟩) (n+1) c4,.int .i64 0,.slice none 0 0,.slice (some ⟨g5,0,none⟩) 1 1] 123))∧Below W0.heap.size W0 (X.alloc (.cells #[.slice (some ⟨g4,0,none⟩) (n+1) c4,.int .i64 0,.slice none 0 0,.slice (some ⟨g5,0,none⟩) 1 1] 123))∧∀ k,O k→W0.heap.size≤k:=by
 have hbX:Below X.heap.size X (X.alloc (.cells #[.slice (some ⟨g4,0,none⟩) (n+1) c4,.int .i64 0,.slice none 0 0,.slice (some ⟨g5,0,none⟩) 1 1] 123)):=(aj _ _).alloc (ae _) _;have hz:=hb.size;have l4:=h4.lt g4 rfl;have l5:=h5.lt g5 rfl;have t4:=dF h4 (k:=g4) rfl;have t5:=dF h5 (k:=g5) rfl
 have hne:g4≠g5:=fun e=>by rw [e] at t4;exact absurd (t4.one t5) (by decide)
 have hq:=fO X (.cells #[.slice (some ⟨g4,0,none⟩) (n+1) c4,.int .i64 0,.slice none 0 0,.slice (some ⟨g5,0,none⟩) 1 1] 123);have h4':=aV h4 hbX;have h5':=aV h5 hbX;have t4':=dF h4' (k:=g4) rfl;generalize hW:X.alloc (.cells #[.slice (some ⟨g4,0,none⟩) (n+1) c4,.int .i64 0,.slice none 0 0,.slice (some ⟨g5,0,none⟩) 1 1] 123)=W at hbX hq h4' h5' t4' ⊢
 refine ⟨fun k=>k=X.heap.size∨k=g5,⟨.slice none 0 0,.slice (some ⟨g5,0,none⟩) 1 1,[none],[],vR,hq,?_,dD _ _ _ _,rfl,jr h5' (aL _),?_,?_,?_⟩,hb.trans (hbX.mono hz),?_⟩
 ·refine ⟨g4,0,c4,by rw [hL],⟨aD l4.2 hbX.size,fun h=>?_,?_⟩,?_⟩
  ·rcases h with h|h
   ·omega
   ·exact hne h
  ·obtain ⟨cs,fr,h⟩:=t4'
   exact ⟨_,h,rfl⟩
  ·intro j u hj
   have e:gp (L++[sV size])=gp L++qG (sV size):=by rw [oN];simp [gp]
   rw [e] at hj
   have hl:(gp L++qG (sV size)).length=(n+1)*4:=by rw [aM,qH,hL];simp [qG];omega
   have hj2:=(aN.1 hj).1;rw [bz,h4'.cellAt j (by omega)]
   exact hj
 ·exact ⟨.slice none 0 0,[],[],[],rfl,rfl,dD _ _ _ _,rfl,rfl,rfl⟩
 ·exact ⟨fun g h=>by (cases h),trivial⟩
 ·intro k
  simp [Value.ownBlock]
  constructor
  ·rintro (h|h)
   ·exact .inl h
   ·exact .inr h.symm
  ·rintro (h|h)
   ·exact .inl h
   ·exact .inr h.symm
 ·rintro k (rfl|rfl)
  ·omega
  ·exact l5.1
theorem Ow (W:World):(Instr.makeSlice 120 (.int .i64 1) (.int .i64 1)).run Tryz.prog W=.ok (.slice (some ⟨W.heap.size,0,none⟩) 1 1) (W.alloc (.cells #[.string ⟨#[]⟩,.string ⟨#[]⟩,.int .i64 0,.int .i64 0,.slice none 0 0,.int .i64 0] 128)):=by
 obtain ⟨iB,hi0,hz0,hz1,hz2⟩:=fF Qp;have h:=run_makeSlice (P:=Tryz.prog) (w:=W) 120 128 iB _ Tryz.underlying120 hi0 hz0 .i64 .i64 1 1 (by decide) (by decide) (by rw [hz1];decide) (by rw [hz2];decide) (by decide);rw [hz1,show madeCells (Value.agg #[.string ⟨#[]⟩,.string ⟨#[]⟩,.int .i64 0,.int .i64 0,.slice none 0 0,.int .i64 0]).cells (Int.toNat 1*6)=#[.string ⟨#[]⟩,.string ⟨#[]⟩,.int .i64 0,.int .i64 0,.slice none 0 0,.int .i64 0] from by kernel_rfl] at h
 exact h
theorem oW (W:World):(W.alloc (.cells #[.string ⟨#[]⟩,.string ⟨#[]⟩,.int .i64 0,.int .i64 0,.slice none 0 0,.int .i64 0] 128)).ownsRow W.heap.size 128 6 (.slice (some ⟨W.heap.size,0,none⟩) 1 1) 1 vR :=
 ⟨rfl,.inr ⟨W.heap.size,1,_,rfl,ae _,fO _ _,by decide,by unfold maxLen;decide,rfl,rfl⟩⟩
theorem yY (s:ByteArray) (w:World) (hs:s.size≤1000000000000) (hlw:(fH (okB s) s.toList).length≤1000001) (hT:qI w) :
  Calls Tryz.prog 75 #[.string s] w fun e w'=>∃ d lv O,e=.returned (ptr d)∧Mem d (fH (okB s) s.toList) s.size lv ⟨0,[],[root]⟩ O w'∧Below w.heap.size w w'∧∀ k,O k→w.heap.size≤k:=by
 obtain ⟨L,hL⟩:∃ L,fH (okB s) s.toList=L:=⟨_,rfl⟩
 have hlen:L.length≤1000001:=by rw [← hL];exact hlw
 obtain ⟨n,hn⟩:∃ n,L.length=n:=⟨_,rfl⟩;rw [hn] at hlen;obtain ⟨iT,hi0,hz0,hz1,hz2⟩:=fF aa3;obtain ⟨z,hz⟩:∃ z,s.size=z:=⟨_,rfl⟩;have Yj:=hid hs;clear hlw;have M0:=hid hT;have HZ:=hid hz;have hmk:=Ow;rw [hz] at hs;rw [hL,hz];have HLn:=hid hn;have HLL:=hid hL;clear hT hL hn
 go_enter Tryz.func75,Tryz.ntmps75
 go_upto_region 2 with fail
 obtain ⟨W0,hW0⟩:∃ W0,w.alloc (.cells #[.int .i64 (-1),.string ⟨#[]⟩,.int .i64 z,.int .i64 z] 86)=W0:=⟨_,rfl⟩
 have hq0:W0.heap[w.heap.size]?=some (.cells #[.int .i64 (-1),.string ⟨#[]⟩,.int .i64 z,.int .i64 z] 86 (0,0)):=by rw [← hW0];exact fO _ _
 have hbw:Below w.heap.size w W0:=by rw [← hW0];exact (aj _ _).alloc (ae _) _
 have hzw:w.heap.size<W0.heap.size:=by rw [← hW0];simp
 rw [hW0];have ZO:=hid hbw;have HZW:=hid hzw
 have HC:Hid (∀ X,Below W0.heap.size W0 X→Calls Tryz.prog 48 #[.string s] X fun e X'=>∃ v,e=.returned v∧X'.ownsRow W0.heap.size 86 4 v n (gp L)∧Below X.heap.size X X'):=hid (fun X hX=>(R8 s X (by omega) (M0.out.later (hbw.trans (hX.mono (by omega))))).mono (by
  rintro e X' ⟨v,h1,h2,h3⟩;rw [HLL.out,HLn.out] at h2
  exact ⟨v,h1,jr h2 (by have:=hX.size;omega),h3⟩))
 have hq:∀ X,Below W0.heap.size W0 X→X.cell? ⟨w.heap.size,0,none⟩=some (.int .i64 (-1))∧X.cell? ⟨w.heap.size,1,none⟩=some (.string ⟨#[]⟩)∧X.cell? ⟨w.heap.size,2,none⟩=some (.int .i64 z)∧X.cell? ⟨w.heap.size,3,none⟩=some (.int .i64 z):=fun X hX=>by
  have h:=(hX.block w.heap.size (by omega)).trans hq0
  exact ⟨by simp [World.cell?,h],by simp [World.cell?,h],by simp [World.cell?,h],by simp [World.cell?,h]⟩
 have HQ:=hid hq
 have HE:Hid (∀ X g4 c4 g5,Below W0.heap.size W0 X→X.ownsRow W0.heap.size 86 4 (.slice (some ⟨g4,0,none⟩) (n+1) c4) (n+1) (gp L++qG (sV z))→X.ownsRow W0.heap.size 128 6 (.slice (some ⟨g5,0,none⟩) 1 1) 1 vR →
   ∃ O,Mem X.heap.size L z (.slice (some ⟨g4,0,none⟩) (n+1) c4) ⟨0,[],[root]⟩ O (X.alloc (.cells #[.slice (some ⟨g4,0,none⟩) (n+1) c4,.int .i64 0,.slice none 0 0,.slice (some ⟨g5,0,none⟩) 1 1] 123))∧Below w.heap.size w (X.alloc (.cells #[.slice (some ⟨g4,0,none⟩) (n+1) c4,.int .i64 0,.slice none 0 0,.slice (some ⟨g5,0,none⟩) 1 1] 123))∧∀ k,O k→w.heap.size≤k):=hid (fun X g4 c4 g5 h1 h2 h3=>by
  obtain ⟨O,e1,e2,e3⟩:=U3 (size:=z) HLn.out h1 h2 h3
  exact ⟨O,e1,ZO.out.trans (e2.mono (by have:=HZW.out;omega)),fun k hk=>by have:=e3 k hk;have:=HZW.out;omega⟩)
 have hb0:Below W0.heap.size W0 W0.drew:=(aj _ _).drew;have HB0:=hid hb0;clear hq hq0 hbw hzw hW0 hb0 M0 Yj
 refine aS (S:=fun X=>Below W0.heap.size W0 X) (by kernel_rfl) HB0.out fun ag=>?_
 obtain ⟨V,hV⟩:∃ V,W0.drew=V:=⟨_,rfl⟩;rw [hV] at HB0 ag ⊢;clear hV;have HQ0:=HQ.out;refine OP.m 0 rfl (.string s) ag ?_;simp only [OP.s];refine OP.t 2 rfl (.agg #[.int .i64 (-1),.string ⟨#[]⟩,.int .i64 z,.int .i64 z]) (fun X hX=>by have q0:=(HQ0 X hX).1;have q1:=(HQ0 X hX).2.1;have q2:=(HQ0 X hX).2.2.1;have q3:=(HQ0 X hX).2.2.2;go_simp) ag ?_;simp only [OP.s];clear HQ0;refine OP.l [1,3,5] ?_
 refine (OP.c rfl (fun K hK=>?_) (OP.c rfl (fun K hK=>?_) (OP.c rfl (fun K hK=>?_) AllReadyH.nil)))
 ·refine OP.w ?_
  go_simp
  go_at_call 48
  refine (HC.out _ HB0.out).mono ?_;rintro e X1 ⟨v1,rfl,w1,k1⟩;have hb1:=HB0.out.trans (k1.mono HB0.out.size);dsimp only
  refine hK.out _ _ hb1 fun ag=>?_
  try simp only [OP.s]
  clear hK K
  refine OP.q 3 5 rfl rfl (fun K hK=>?_) fun K hK=>?_
  ·refine OP.w ?_
   go_simp
   obtain ⟨g3,hg2⟩:∃ g,X1.heap.size=g:=⟨_,rfl⟩;obtain ⟨X2,hX2⟩:∃ Y,X1.alloc (.cells #[.int .i64 (-1),.string ⟨#[]⟩,.int .i64 z,.int .i64 z] 86)=Y:=⟨_,rfl⟩
   have Yk:X2.heap[g3]?=some (.cells #[.int .i64 (-1),.string ⟨#[]⟩,.int .i64 z,.int .i64 z] 86 (0,0)):=by rw [← hX2,← hg2];exact fO _ _
   have k2:Below X1.heap.size X1 X2:=by rw [← hX2];exact (aj _ _).alloc (ae _) _
   have hb2:=hb1.trans (k2.mono hb1.size);have Yl:=aV w1 k2;rw [hg2,hX2];clear hg2 hX2 k2
   refine hK.out _ _ hb2 fun ag=>?_
   try simp only [OP.s]
   clear hK K
   refine OP.q 4 5 rfl rfl (fun K hK=>?_) fun K hK=>?_
   ·refine OP.w ?_
    refine eD _ (.tmp 10) (.tmp 12) 79 rfl W0.heap.size 86 iT (.agg #[.int .i64 0,.string ⟨#[]⟩,.int .i64 0,.int .i64 0]) 4 40 Tryz.underlying79 hi0 hz0 hz1 hz2 rfl (by decide) v1 n (gp L) rfl Yl ⟨g3,0,none⟩ 1 1 (qG (sV z)) rfl rfl (dm (cs:=#[.int .i64 (-1),.string ⟨#[]⟩,.int .i64 z,.int .i64 z]) Yk) (p9 _) (by decide) (by unfold maxLen;omega) (by omega) hb2.size _ rfl ?_;intro g4 c4 X3 w3 aP hat hlt;have hb3:=below_grown hb2 Yl aP
    refine hK.out _ _ hb3 fun ag=>?_
    try simp only [OP.s]
    clear hK K
    refine OP.r 5 rfl fun K hK=>?_
    go_simp
    have o4:=oW X3;obtain ⟨g5,hg4⟩:∃ g,X3.heap.size=g:=⟨_,rfl⟩;obtain ⟨X4,hX4⟩:∃ Y,X3.alloc (.cells #[.string ⟨#[]⟩,.string ⟨#[]⟩,.int .i64 0,.int .i64 0,.slice none 0 0,.int .i64 0] 128)=Y:=⟨_,rfl⟩
    have k4:Below X3.heap.size X3 X4:=by rw [← hX4];exact (aj _ _).alloc (ae _) _
    have hb4:=hb3.trans (k4.mono hb3.size)
    have aeP:X4.ownsRow W0.heap.size 128 6 (.slice (some ⟨g5,0,none⟩) 1 1) 1 vR:=by rw [← hX4,← hg4];exact jr o4 hb3.size
    have aeQ:=aV w3 k4;rw [hg4,hX4];clear hg4 hX4 k4 o4
    refine hK.out _ _ hb4 fun ag=>?_
    try simp only [OP.s]
    clear hK K;obtain ⟨O,hM,hbe,hO⟩:=HE.out X4 g4 c4 g5 hb4 aeQ aeP;refine OP.t 6 rfl (.agg #[.slice (some ⟨g4,0,none⟩) (n+1) c4,.int .i64 0,.slice none 0 0,.slice (some ⟨g5,0,none⟩) 1 1]) (fun X hX=>by kernel_rfl) ag ?_;simp only [OP.s]
    refine OP.r 7 rfl fun K hK=>?_
    go_simp
    refine hK.out _ _ (hb4.alloc hb4.size _) fun ag=>?_
    try simp only [OP.s]
    clear hK K;refine OP.m 8 rfl (ptr X4.heap.size) ag ?_;simp only [OP.s];refine bL (by kernel_rfl) ?_ _;generalize X4.alloc (.cells #[.slice (some ⟨g4,0,none⟩) (n+1) c4,.int .i64 0,.slice none 0 0,.slice (some ⟨g5,0,none⟩) 1 1] 123)=Z at hM hbe ⊢;generalize X4.heap.size=d at hM ⊢;clear ag
    go_wp2_with fail
    go_ret
    exact ⟨_,_,O,rfl,hM,hbe,hO⟩
   ·refine OP.w ?_
    go_simp
    have o5:=oW X2;obtain ⟨g5,hg5⟩:∃ g,X2.heap.size=g:=⟨_,rfl⟩;obtain ⟨X5,WL⟩:∃ Y,X2.alloc (.cells #[.string ⟨#[]⟩,.string ⟨#[]⟩,.int .i64 0,.int .i64 0,.slice none 0 0,.int .i64 0] 128)=Y:=⟨_,rfl⟩
    have k5:Below X2.heap.size X2 X5:=by rw [← WL];exact (aj _ _).alloc (ae _) _
    have hb5:=hb2.trans (k5.mono hb2.size)
    have aeR:X5.ownsRow W0.heap.size 128 6 (.slice (some ⟨g5,0,none⟩) 1 1) 1 vR:=by rw [← WL,← hg5];exact jr o5 hb2.size
    have Ym:=aV Yl k5;have aeS:=(k5.block _ (ZN Yk)).trans Yk;rw [hg5,WL];clear hg5 WL k5 o5
    refine hK.out _ _ hb5 fun ag=>?_
    try simp only [OP.s]
    clear hK K
    refine OP.r 4 rfl fun K hK=>?_
    refine eD _ (.tmp 10) (.tmp 12) 79 rfl W0.heap.size 86 iT (.agg #[.int .i64 0,.string ⟨#[]⟩,.int .i64 0,.int .i64 0]) 4 40 Tryz.underlying79 hi0 hz0 hz1 hz2 rfl (by decide) v1 n (gp L) rfl Ym ⟨g3,0,none⟩ 1 1 (qG (sV z)) rfl rfl (dm (cs:=#[.int .i64 (-1),.string ⟨#[]⟩,.int .i64 z,.int .i64 z]) aeS) (p9 _) (by decide) (by unfold maxLen;omega) (by omega) hb5.size _ rfl ?_;intro g4 c4 X6 w6 aP hat hlt;have hb6:=below_grown hb5 Ym aP;have aeT:=oV aeR Ym (by decide) aP
    refine hK.out _ _ hb6 fun ag=>?_
    try simp only [OP.s]
    clear hK K;obtain ⟨O,hM,hbe,hO⟩:=HE.out X6 g4 c4 g5 hb6 w6 aeT;refine OP.t 6 rfl (.agg #[.slice (some ⟨g4,0,none⟩) (n+1) c4,.int .i64 0,.slice none 0 0,.slice (some ⟨g5,0,none⟩) 1 1]) (fun X hX=>by kernel_rfl) ag ?_;simp only [OP.s]
    refine OP.r 7 rfl fun K hK=>?_
    go_simp
    refine hK.out _ _ (hb6.alloc hb6.size _) fun ag=>?_
    try simp only [OP.s]
    clear hK K;refine OP.m 8 rfl (ptr X6.heap.size) ag ?_;simp only [OP.s];refine bL (by kernel_rfl) ?_ _;generalize X6.alloc (.cells #[.slice (some ⟨g4,0,none⟩) (n+1) c4,.int .i64 0,.slice none 0 0,.slice (some ⟨g5,0,none⟩) 1 1] 123)=Z at hM hbe ⊢;generalize X6.heap.size=d at hM ⊢;clear ag
    go_wp2_with fail
    go_ret
    exact ⟨_,_,O,rfl,hM,hbe,hO⟩
  ·refine OP.w ?_
   go_simp
   have o7:=oW X1;obtain ⟨g5,hg7⟩:∃ g,X1.heap.size=g:=⟨_,rfl⟩;obtain ⟨X7,hX7⟩:∃ Y,X1.alloc (.cells #[.string ⟨#[]⟩,.string ⟨#[]⟩,.int .i64 0,.int .i64 0,.slice none 0 0,.int .i64 0] 128)=Y:=⟨_,rfl⟩
   have k7:Below X1.heap.size X1 X7:=by rw [← hX7];exact (aj _ _).alloc (ae _) _
   have Eg:=hb1.trans (k7.mono hb1.size)
   have aeV:X7.ownsRow W0.heap.size 128 6 (.slice (some ⟨g5,0,none⟩) 1 1) 1 vR:=by rw [← hX7,← hg7];exact jr o7 hb1.size
   have aeW:=aV w1 k7;rw [hg7,hX7];clear hg7 hX7 k7 o7
   refine hK.out _ _ Eg fun ag=>?_
   try simp only [OP.s]
   clear hK K
   refine OP.r 3 rfl fun K hK=>?_
   go_simp
   obtain ⟨g3,hg8⟩:∃ g,X7.heap.size=g:=⟨_,rfl⟩;obtain ⟨X8,hX8⟩:∃ Y,X7.alloc (.cells #[.int .i64 (-1),.string ⟨#[]⟩,.int .i64 z,.int .i64 z] 86)=Y:=⟨_,rfl⟩
   have aeY:X8.heap[g3]?=some (.cells #[.int .i64 (-1),.string ⟨#[]⟩,.int .i64 z,.int .i64 z] 86 (0,0)):=by rw [← hX8,← hg8];exact fO _ _
   have k8:Below X7.heap.size X7 X8:=by rw [← hX8];exact (aj _ _).alloc (ae _) _
   have qJ:=Eg.trans (k8.mono Eg.size);have Yn:=aV aeW k8;have aeZ:=aV aeV k8;rw [hg8,hX8];clear hg8 hX8 k8
   refine hK.out _ _ qJ fun ag=>?_
   try simp only [OP.s]
   clear hK K
   refine OP.r 4 rfl fun K hK=>?_
   refine eD _ (.tmp 10) (.tmp 12) 79 rfl W0.heap.size 86 iT (.agg #[.int .i64 0,.string ⟨#[]⟩,.int .i64 0,.int .i64 0]) 4 40 Tryz.underlying79 hi0 hz0 hz1 hz2 rfl (by decide) v1 n (gp L) rfl Yn ⟨g3,0,none⟩ 1 1 (qG (sV z)) rfl rfl (dm (cs:=#[.int .i64 (-1),.string ⟨#[]⟩,.int .i64 z,.int .i64 z]) aeY) (p9 _) (by decide) (by unfold maxLen;omega) (by omega) qJ.size _ rfl ?_;intro g4 c4 X9 w9 aP hat hlt;have nV:=below_grown qJ Yn aP;have ae0:=oV aeZ Yn (by decide) aP
   refine hK.out _ _ nV fun ag=>?_
   try simp only [OP.s]
   clear hK K;obtain ⟨O,hM,hbe,hO⟩:=HE.out X9 g4 c4 g5 nV w9 ae0;refine OP.t 6 rfl (.agg #[.slice (some ⟨g4,0,none⟩) (n+1) c4,.int .i64 0,.slice none 0 0,.slice (some ⟨g5,0,none⟩) 1 1]) (fun X hX=>by kernel_rfl) ag ?_;simp only [OP.s]
   refine OP.r 7 rfl fun K hK=>?_
   go_simp
   refine hK.out _ _ (nV.alloc nV.size _) fun ag=>?_
   try simp only [OP.s]
   clear hK K;refine OP.m 8 rfl (ptr X9.heap.size) ag ?_;simp only [OP.s];refine bL (by kernel_rfl) ?_ _;generalize X9.alloc (.cells #[.slice (some ⟨g4,0,none⟩) (n+1) c4,.int .i64 0,.slice none 0 0,.slice (some ⟨g5,0,none⟩) 1 1] 123)=Z at hM hbe ⊢;generalize X9.heap.size=d at hM ⊢;clear ag
   go_wp2_with fail
   go_ret
   exact ⟨_,_,O,rfl,hM,hbe,hO⟩
 ·refine OP.w ?_
  go_simp
  obtain ⟨g3,Ae⟩:∃ g,V.heap.size=g:=⟨_,rfl⟩;obtain ⟨Yo,U4⟩:∃ Y,V.alloc (.cells #[.int .i64 (-1),.string ⟨#[]⟩,.int .i64 z,.int .i64 z] 86)=Y:=⟨_,rfl⟩
  have M3:Yo.heap[g3]?=some (.cells #[.int .i64 (-1),.string ⟨#[]⟩,.int .i64 z,.int .i64 z] 86 (0,0)):=by rw [← U4,← Ae];exact fO _ _
  have k10:Below V.heap.size V Yo:=by rw [← U4];exact (aj _ _).alloc (ae _) _
  have rF:=HB0.out.trans (k10.mono HB0.out.size);rw [Ae,U4];clear Ae U4 k10
  refine hK.out _ _ rF fun ag=>?_
  try simp only [OP.s]
  clear hK K
  refine OP.q 1 5 rfl rfl (fun K hK=>?_) fun K hK=>?_
  ·refine OP.w ?_
   go_simp
   go_at_call 48
   refine (HC.out _ rF).mono ?_;rintro e X11 ⟨v1,rfl,A9,k11⟩;have vM:=rF.trans (k11.mono rF.size);have Sa:=(k11.block _ (ZN M3)).trans M3;dsimp only
   refine hK.out _ _ vM fun ag=>?_
   try simp only [OP.s]
   clear hK K
   refine OP.q 4 5 rfl rfl (fun K hK=>?_) fun K hK=>?_
   ·refine OP.w ?_
    refine eD _ (.tmp 10) (.tmp 12) 79 rfl W0.heap.size 86 iT (.agg #[.int .i64 0,.string ⟨#[]⟩,.int .i64 0,.int .i64 0]) 4 40 Tryz.underlying79 hi0 hz0 hz1 hz2 rfl (by decide) v1 n (gp L) rfl A9 ⟨g3,0,none⟩ 1 1 (qG (sV z)) rfl rfl (dm (cs:=#[.int .i64 (-1),.string ⟨#[]⟩,.int .i64 z,.int .i64 z]) Sa) (p9 _) (by decide) (by unfold maxLen;omega) (by omega) vM.size _ rfl ?_;intro g4 c4 X12 w12 aP hat hlt;have Bu:=below_grown vM A9 aP
    refine hK.out _ _ Bu fun ag=>?_
    try simp only [OP.s]
    clear hK K
    refine OP.r 5 rfl fun K hK=>?_
    go_simp
    have o13:=oW X12;obtain ⟨g5,Yp⟩:∃ g,X12.heap.size=g:=⟨_,rfl⟩;obtain ⟨ZP,U5⟩:∃ Y,X12.alloc (.cells #[.string ⟨#[]⟩,.string ⟨#[]⟩,.int .i64 0,.int .i64 0,.slice none 0 0,.int .i64 0] 128)=Y:=⟨_,rfl⟩
    have k13:Below X12.heap.size X12 ZP:=by rw [← U5];exact (aj _ _).alloc (ae _) _
    have U6:=Bu.trans (k13.mono Bu.size)
    have aa9:ZP.ownsRow W0.heap.size 128 6 (.slice (some ⟨g5,0,none⟩) 1 1) 1 vR:=by rw [← U5,← Yp];exact jr o13 Bu.size
    have aba:=aV w12 k13;rw [Yp,U5];clear Yp U5 k13 o13
    refine hK.out _ _ U6 fun ag=>?_
    try simp only [OP.s]
    clear hK K;obtain ⟨O,hM,hbe,hO⟩:=HE.out ZP g4 c4 g5 U6 aba aa9;refine OP.t 6 rfl (.agg #[.slice (some ⟨g4,0,none⟩) (n+1) c4,.int .i64 0,.slice none 0 0,.slice (some ⟨g5,0,none⟩) 1 1]) (fun X hX=>by kernel_rfl) ag ?_;simp only [OP.s]
    refine OP.r 7 rfl fun K hK=>?_
    go_simp
    refine hK.out _ _ (U6.alloc U6.size _) fun ag=>?_
    try simp only [OP.s]
    clear hK K;refine OP.m 8 rfl (ptr ZP.heap.size) ag ?_;simp only [OP.s];refine bL (by kernel_rfl) ?_ _;generalize ZP.alloc (.cells #[.slice (some ⟨g4,0,none⟩) (n+1) c4,.int .i64 0,.slice none 0 0,.slice (some ⟨g5,0,none⟩) 1 1] 123)=Z at hM hbe ⊢;generalize ZP.heap.size=d at hM ⊢;clear ag
    go_wp2_with fail
    go_ret
    exact ⟨_,_,O,rfl,hM,hbe,hO⟩
   ·refine OP.w ?_
    go_simp
    have o14:=oW X11;obtain ⟨g5,Yq⟩:∃ g,X11.heap.size=g:=⟨_,rfl⟩;obtain ⟨X14,U7⟩:∃ Y,X11.alloc (.cells #[.string ⟨#[]⟩,.string ⟨#[]⟩,.int .i64 0,.int .i64 0,.slice none 0 0,.int .i64 0] 128)=Y:=⟨_,rfl⟩
    have k14:Below X11.heap.size X11 X14:=by rw [← U7];exact (aj _ _).alloc (ae _) _
    have Yr:=vM.trans (k14.mono vM.size)
    have abb:X14.ownsRow W0.heap.size 128 6 (.slice (some ⟨g5,0,none⟩) 1 1) 1 vR:=by rw [← U7,← Yq];exact jr o14 vM.size
    have Sb:=aV A9 k14;have abd:=(k14.block _ (ZN Sa)).trans Sa;rw [Yq,U7];clear Yq U7 k14 o14
    refine hK.out _ _ Yr fun ag=>?_
    try simp only [OP.s]
    clear hK K
    refine OP.r 4 rfl fun K hK=>?_
    refine eD _ (.tmp 10) (.tmp 12) 79 rfl W0.heap.size 86 iT (.agg #[.int .i64 0,.string ⟨#[]⟩,.int .i64 0,.int .i64 0]) 4 40 Tryz.underlying79 hi0 hz0 hz1 hz2 rfl (by decide) v1 n (gp L) rfl Sb ⟨g3,0,none⟩ 1 1 (qG (sV z)) rfl rfl (dm (cs:=#[.int .i64 (-1),.string ⟨#[]⟩,.int .i64 z,.int .i64 z]) abd) (p9 _) (by decide) (by unfold maxLen;omega) (by omega) Yr.size _ rfl ?_;intro g4 c4 X15 w15 aP hat hlt;have U8:=below_grown Yr Sb aP;have abe:=oV abb Sb (by decide) aP
    refine hK.out _ _ U8 fun ag=>?_
    try simp only [OP.s]
    clear hK K;obtain ⟨O,hM,hbe,hO⟩:=HE.out X15 g4 c4 g5 U8 w15 abe;refine OP.t 6 rfl (.agg #[.slice (some ⟨g4,0,none⟩) (n+1) c4,.int .i64 0,.slice none 0 0,.slice (some ⟨g5,0,none⟩) 1 1]) (fun X hX=>by kernel_rfl) ag ?_;simp only [OP.s]
    refine OP.r 7 rfl fun K hK=>?_
    go_simp
    refine hK.out _ _ (U8.alloc U8.size _) fun ag=>?_
    try simp only [OP.s]
    clear hK K;refine OP.m 8 rfl (ptr X15.heap.size) ag ?_;simp only [OP.s];refine bL (by kernel_rfl) ?_ _;generalize X15.alloc (.cells #[.slice (some ⟨g4,0,none⟩) (n+1) c4,.int .i64 0,.slice none 0 0,.slice (some ⟨g5,0,none⟩) 1 1] 123)=Z at hM hbe ⊢;generalize X15.heap.size=d at hM ⊢;clear ag
    go_wp2_with fail
    go_ret
    exact ⟨_,_,O,rfl,hM,hbe,hO⟩
  ·refine OP.w ?_
   go_simp
   have o16:=oW Yo;obtain ⟨g5,Yt⟩:∃ g,Yo.heap.size=g:=⟨_,rfl⟩;obtain ⟨X16,U9⟩:∃ Y,Yo.alloc (.cells #[.string ⟨#[]⟩,.string ⟨#[]⟩,.int .i64 0,.int .i64 0,.slice none 0 0,.int .i64 0] 128)=Y:=⟨_,rfl⟩
   have k16:Below Yo.heap.size Yo X16:=by rw [← U9];exact (aj _ _).alloc (ae _) _
   have Va:=rF.trans (k16.mono rF.size)
   have abf:X16.ownsRow W0.heap.size 128 6 (.slice (some ⟨g5,0,none⟩) 1 1) 1 vR:=by rw [← U9,← Yt];exact jr o16 rF.size
   have WM:=(k16.block _ (ZN M3)).trans M3;rw [Yt,U9];clear Yt U9 k16 o16
   refine hK.out _ _ Va fun ag=>?_
   try simp only [OP.s]
   clear hK K
   refine OP.r 1 rfl fun K hK=>?_
   go_simp
   go_at_call 48
   refine (HC.out _ Va).mono ?_;rintro e X17 ⟨v1,rfl,w17,k17⟩;have Yu:=Va.trans (k17.mono Va.size);have abg:=(k17.block _ (ZN WM)).trans WM;have abh:=aV abf k17;dsimp only
   refine hK.out _ _ Yu fun ag=>?_
   try simp only [OP.s]
   clear hK K
   refine OP.r 4 rfl fun K hK=>?_
   refine eD _ (.tmp 10) (.tmp 12) 79 rfl W0.heap.size 86 iT (.agg #[.int .i64 0,.string ⟨#[]⟩,.int .i64 0,.int .i64 0]) 4 40 Tryz.underlying79 hi0 hz0 hz1 hz2 rfl (by decide) v1 n (gp L) rfl w17 ⟨g3,0,none⟩ 1 1 (qG (sV z)) rfl rfl (dm (cs:=#[.int .i64 (-1),.string ⟨#[]⟩,.int .i64 z,.int .i64 z]) abg) (p9 _) (by decide) (by unfold maxLen;omega) (by omega) Yu.size _ rfl ?_;intro g4 c4 X18 w18 aP hat hlt;have Vb:=below_grown Yu w17 aP;have abj:=oV abh w17 (by decide) aP
   refine hK.out _ _ Vb fun ag=>?_
   try simp only [OP.s]
   clear hK K;obtain ⟨O,hM,hbe,hO⟩:=HE.out X18 g4 c4 g5 Vb w18 abj;refine OP.t 6 rfl (.agg #[.slice (some ⟨g4,0,none⟩) (n+1) c4,.int .i64 0,.slice none 0 0,.slice (some ⟨g5,0,none⟩) 1 1]) (fun X hX=>by kernel_rfl) ag ?_;simp only [OP.s]
   refine OP.r 7 rfl fun K hK=>?_
   go_simp
   refine hK.out _ _ (Vb.alloc Vb.size _) fun ag=>?_
   try simp only [OP.s]
   clear hK K;refine OP.m 8 rfl (ptr X18.heap.size) ag ?_;simp only [OP.s];refine bL (by kernel_rfl) ?_ _;generalize X18.alloc (.cells #[.slice (some ⟨g4,0,none⟩) (n+1) c4,.int .i64 0,.slice none 0 0,.slice (some ⟨g5,0,none⟩) 1 1] 123)=Z at hM hbe ⊢;generalize X18.heap.size=d at hM ⊢;clear ag
   go_wp2_with fail
   go_ret
   exact ⟨_,_,O,rfl,hM,hbe,hO⟩
 ·refine OP.w ?_
  go_simp
  have o19:=oW V;obtain ⟨g5,Yv⟩:∃ g,V.heap.size=g:=⟨_,rfl⟩;obtain ⟨ZQ,Vd⟩:∃ Y,V.alloc (.cells #[.string ⟨#[]⟩,.string ⟨#[]⟩,.int .i64 0,.int .i64 0,.slice none 0 0,.int .i64 0] 128)=Y:=⟨_,rfl⟩
  have k19:Below V.heap.size V ZQ:=by rw [← Vd];exact (aj _ _).alloc (ae _) _
  have Ox:=HB0.out.trans (k19.mono HB0.out.size)
  have WN:ZQ.ownsRow W0.heap.size 128 6 (.slice (some ⟨g5,0,none⟩) 1 1) 1 vR:=by rw [← Vd,← Yv];exact jr o19 HB0.out.size
  rw [Yv,Vd];clear Yv Vd k19 o19
  refine hK.out _ _ Ox fun ag=>?_
  try simp only [OP.s]
  clear hK K
  refine OP.q 1 3 rfl rfl (fun K hK=>?_) fun K hK=>?_
  ·refine OP.w ?_
   go_simp
   go_at_call 48
   refine (HC.out _ Ox).mono ?_;rintro e X20 ⟨v1,rfl,w20,k20⟩;have Yw:=Ox.trans (k20.mono Ox.size);have abk:=aV WN k20;dsimp only
   refine hK.out _ _ Yw fun ag=>?_
   try simp only [OP.s]
   clear hK K
   refine OP.r 3 rfl fun K hK=>?_
   go_simp
   obtain ⟨g3,Yx⟩:∃ g,X20.heap.size=g:=⟨_,rfl⟩;obtain ⟨X21,Ve⟩:∃ Y,X20.alloc (.cells #[.int .i64 (-1),.string ⟨#[]⟩,.int .i64 z,.int .i64 z] 86)=Y:=⟨_,rfl⟩
   have abl:X21.heap[g3]?=some (.cells #[.int .i64 (-1),.string ⟨#[]⟩,.int .i64 z,.int .i64 z] 86 (0,0)):=by rw [← Ve,← Yx];exact fO _ _
   have k21:Below X20.heap.size X20 X21:=by rw [← Ve];exact (aj _ _).alloc (ae _) _
   have CJ:=Yw.trans (k21.mono Yw.size);have Sc:=aV w20 k21;have abm:=aV abk k21;rw [Yx,Ve];clear Yx Ve k21
   refine hK.out _ _ CJ fun ag=>?_
   try simp only [OP.s]
   clear hK K
   refine OP.r 4 rfl fun K hK=>?_
   refine eD _ (.tmp 10) (.tmp 12) 79 rfl W0.heap.size 86 iT (.agg #[.int .i64 0,.string ⟨#[]⟩,.int .i64 0,.int .i64 0]) 4 40 Tryz.underlying79 hi0 hz0 hz1 hz2 rfl (by decide) v1 n (gp L) rfl Sc ⟨g3,0,none⟩ 1 1 (qG (sV z)) rfl rfl (dm (cs:=#[.int .i64 (-1),.string ⟨#[]⟩,.int .i64 z,.int .i64 z]) abl) (p9 _) (by decide) (by unfold maxLen;omega) (by omega) CJ.size _ rfl ?_;intro g4 c4 X22 w22 aP hat hlt;have zR:=below_grown CJ Sc aP;have abn:=oV abm Sc (by decide) aP
   refine hK.out _ _ zR fun ag=>?_
   try simp only [OP.s]
   clear hK K;obtain ⟨O,hM,hbe,hO⟩:=HE.out X22 g4 c4 g5 zR w22 abn;refine OP.t 6 rfl (.agg #[.slice (some ⟨g4,0,none⟩) (n+1) c4,.int .i64 0,.slice none 0 0,.slice (some ⟨g5,0,none⟩) 1 1]) (fun X hX=>by kernel_rfl) ag ?_;simp only [OP.s]
   refine OP.r 7 rfl fun K hK=>?_
   go_simp
   refine hK.out _ _ (zR.alloc zR.size _) fun ag=>?_
   try simp only [OP.s]
   clear hK K;refine OP.m 8 rfl (ptr X22.heap.size) ag ?_;simp only [OP.s];refine bL (by kernel_rfl) ?_ _;generalize X22.alloc (.cells #[.slice (some ⟨g4,0,none⟩) (n+1) c4,.int .i64 0,.slice none 0 0,.slice (some ⟨g5,0,none⟩) 1 1] 123)=Z at hM hbe ⊢;generalize X22.heap.size=d at hM ⊢;clear ag
   go_wp2_with fail
   go_ret
   exact ⟨_,_,O,rfl,hM,hbe,hO⟩
  ·refine OP.w ?_
   go_simp
   obtain ⟨g3,Yy⟩:∃ g,ZQ.heap.size=g:=⟨_,rfl⟩;obtain ⟨X23,Vf⟩:∃ Y,ZQ.alloc (.cells #[.int .i64 (-1),.string ⟨#[]⟩,.int .i64 z,.int .i64 z] 86)=Y:=⟨_,rfl⟩
   have WO:X23.heap[g3]?=some (.cells #[.int .i64 (-1),.string ⟨#[]⟩,.int .i64 z,.int .i64 z] 86 (0,0)):=by rw [← Vf,← Yy];exact fO _ _
   have k23:Below ZQ.heap.size ZQ X23:=by rw [← Vf];exact (aj _ _).alloc (ae _) _
   have Vg:=Ox.trans (k23.mono Ox.size);have abo:=aV WN k23;rw [Yy,Vf];clear Yy Vf k23
   refine hK.out _ _ Vg fun ag=>?_
   try simp only [OP.s]
   clear hK K
   refine OP.r 1 rfl fun K hK=>?_
   go_simp
   go_at_call 48
   refine (HC.out _ Vg).mono ?_;rintro e X24 ⟨v1,rfl,w24,k24⟩;have Yz:=Vg.trans (k24.mono Vg.size);have abp:=(k24.block _ (ZN WO)).trans WO;have abq:=aV abo k24;dsimp only
   refine hK.out _ _ Yz fun ag=>?_
   try simp only [OP.s]
   clear hK K
   refine OP.r 4 rfl fun K hK=>?_
   refine eD _ (.tmp 10) (.tmp 12) 79 rfl W0.heap.size 86 iT (.agg #[.int .i64 0,.string ⟨#[]⟩,.int .i64 0,.int .i64 0]) 4 40 Tryz.underlying79 hi0 hz0 hz1 hz2 rfl (by decide) v1 n (gp L) rfl w24 ⟨g3,0,none⟩ 1 1 (qG (sV z)) rfl rfl (dm (cs:=#[.int .i64 (-1),.string ⟨#[]⟩,.int .i64 z,.int .i64 z]) abp) (p9 _) (by decide) (by unfold maxLen;omega) (by omega) Yz.size _ rfl ?_;intro g4 c4 X25 w25 aP hat hlt;have Vh:=below_grown Yz w24 aP;have abr:=oV abq w24 (by decide) aP
   refine hK.out _ _ Vh fun ag=>?_
   try simp only [OP.s]
   clear hK K;obtain ⟨O,hM,hbe,hO⟩:=HE.out X25 g4 c4 g5 Vh w25 abr;refine OP.t 6 rfl (.agg #[.slice (some ⟨g4,0,none⟩) (n+1) c4,.int .i64 0,.slice none 0 0,.slice (some ⟨g5,0,none⟩) 1 1]) (fun X hX=>by kernel_rfl) ag ?_;simp only [OP.s]
   refine OP.r 7 rfl fun K hK=>?_
   go_simp
   refine hK.out _ _ (Vh.alloc Vh.size _) fun ag=>?_
   try simp only [OP.s]
   clear hK K;refine OP.m 8 rfl (ptr X25.heap.size) ag ?_;simp only [OP.s];refine bL (by kernel_rfl) ?_ _;generalize X25.alloc (.cells #[.slice (some ⟨g4,0,none⟩) (n+1) c4,.int .i64 0,.slice none 0 0,.slice (some ⟨g5,0,none⟩) 1 1] 123)=Z at hM hbe ⊢;generalize X25.heap.size=d at hM ⊢;clear ag
   go_wp2_with fail
   go_ret
   exact ⟨_,_,O,rfl,hM,hbe,hO⟩
end K
namespace J
open Go.RowKit
open Go.Lib hiding intOf
open U S T
theorem Pt.ind {C:Pt→Prop} (h:∀ k t f e ks,(∀ p∈ks,C p)→C (.mk k t f e ks)):∀ p,C p
 | .mk k t f e ks=>h k t f e ks (go ks)
where
 go:∀ (l:List Pt),∀ p∈l,C p
  | [],p,hp=>absurd hp (ek)
  | x :: r,p,hp=>by
   rcases bA.1 hp with h1|h1
   ·rw [h1];exact Pt.ind h x
   ·exact go r p h1
def arg (p:Pt) (lv:Value):Value:=.agg (five p lv).toArray
mutual
def rT:Pt→Nat
 | .mk k t _ _ ks=>1+t.length+k.length+oF ks
def oF:List Pt→Nat
 | []=>0
 | p :: r=>rT p+oF r
end
theorem M4 (p:Pt):1≤rT p:=by cases p;rw [rT];omega
theorem kX:∀ l:List Pt,l.length≤oF l
 | []=>by simp
 | p :: r=>by have:=kX r;have:=M4 p;rw [oF,aH];omega
theorem wQ:∀ {l:List Pt} {p:Pt},p∈l→rT p≤oF l
 | x :: r,p,h=>by
  rw [oF]
  rcases bA.1 h with rfl|h
  ·omega
  ·have:=wQ h;omega
theorem BR:∀ (a b:List Pt),oF (a++b)=oF a+oF b
 | [],b=>by simp [oF]
 | x :: r,b=>by rw [bH,oF,oF,BR r b];omega
theorem dH {W W':World} {R:Nat→Prop} {p:Pt} {lv:Value} (h:aT W R p lv) (hb:Below W.heap.size W W'):aT W' R p lv:=aT.later (fun g _ hlt=>hb.block g hlt) (fun _ h=>h) p lv h
theorem si {W W':World} {R:Nat→Prop} {l:List Pt} {xs:List Value} (h:aO W R l xs) (hb:Below W.heap.size W W'):aO W' R l xs:=aO.later (fun g _ hlt=>hb.block g hlt) (fun _ h=>h) l xs h
theorem eF {W:World} {R:Nat→Prop} {k t:By} {f e:Int} {ks:List Pt} {lv:Value} (h:aT W R (.mk k t f e ks) lv):∃ a c,lv=.slice a ks.length c:=by
 obtain ⟨a,c,rfl,_,_⟩:=h
 exact ⟨a,c,rfl⟩
theorem mU {W:World} {R:Nat→Prop} {k t:By} {f e:Int} {ks:List Pt} {a:Option Addr} {n c:Nat} (h:aT W R (.mk k t f e ks) (.slice a n c)):n=ks.length∧ks.length≤c∧(ks=[]∨∃ g off xs,a=some ⟨g,off,none⟩∧R g∧dK W g off xs∧aO W R ks xs):=by
 obtain ⟨a',c',h1,h0,h2⟩:=h
 cases h1
 exact ⟨rfl,h0,h2⟩
theorem wR {W:World} {R:Nat→Prop}:∀ {l:List Pt} {xs:List Value} (i:Nat) (hi:i<l.length),aO W R l xs→∃ lv,aT W R l[i] lv∧∀ j u,(five l[i] lv)[j]?=some u→xs[i*5+j]?=some u
 | [],_,i,hi,_=>absurd hi (bq _)
 | p :: r,xs,i,hi,h=>by
  obtain ⟨lv,rest,rfl,h2,h3⟩:=h;have h5:=eO p lv
  cases i with
  | zero =>
   refine ⟨lv,h2,fun j u hj=>?_⟩;have hj:(five p lv)[j]?=some u:=hj;have hlt:=(aN.1 hj).1;rw [bn (by omega),Nat.zero_mul,bz];exact hj
  | succ i =>
   obtain ⟨Cu,h6,h7⟩:=wR i (by simpa using hi) h3;refine ⟨Cu,h6,fun j u hj=>?_⟩;rw [aK (by omega),h5,show (i+1)*5+j - 5=i*5+j by omega]
   exact h7 j u hj
structure M5 (W:World) (R:Nat→Prop) (p:Pt) (g o:Nat) (k t:By) (f e:Int) (ks:List Pt) (a:Option Addr) (c:Nat):Prop where
 eq:p=.mk k t f e ks
 kids:aT W R (.mk k t f e ks) (.slice a ks.length c)
 k0:W.cell? ⟨g,o,none⟩=some (.string (aU k))
 k1:W.cell? ⟨g,o+1,none⟩=some (.string (aU t))
 k2:W.cell? ⟨g,o+2,none⟩=some (.int .i64 f)
 k3:W.cell? ⟨g,o+3,none⟩=some (.int .i64 e)
 k4:W.cell? ⟨g,o+4,none⟩=some (.slice a ks.length c)
theorem Af {W:World} {R:Nat→Prop} {l:List Pt} {xs:List Value} {g off:Nat} (hp:aO W R l xs) (hc:dK W g off xs) (i:Nat) (hi:i<l.length):∃ k t f e ks a c,M5 W R l[i] g (off+i*5) k t f e ks a c:=by
 obtain ⟨lv,h1,h2⟩:=wR i hi hp;generalize l[i]=p at h1 h2;obtain ⟨k,t,f,e,ks⟩:=p;obtain ⟨a,c,rfl⟩:=eF h1
 have at':∀ j u,(five (.mk k t f e ks) (.slice a ks.length c))[j]?=some u→W.cell? ⟨g,off+i*5+j,none⟩=some u:=fun j u hj=>by
  have:=hc _ _ (h2 j u hj);rw [← Nat.add_assoc] at this
  exact this
 exact ⟨k,t,f,e,ks,a,c,rfl,h1,at' 0 _ rfl,at' 1 _ rfl,at' 2 _ rfl,at' 3 _ rfl,at' 4 _ rfl⟩
theorem M5.below {W W':World} {R:Nat→Prop} {p:Pt} {g o:Nat} {k t:By} {f e:Int} {ks:List Pt} {a:Option Addr} {c:Nat} (h:M5 W R p g o k t f e ks a c) (hb:Below W.heap.size W W'):M5 W' R p g o k t f e ks a c :=
 have cl:∀ {o:Nat} {v:Value},W.cell? ⟨g,o,none⟩=some v→W'.cell? ⟨g,o,none⟩=some v:=fun h=>(hb.cell (bB W _ h)).trans h
 ⟨h.eq,dH h.kids hb,cl h.k0,cl h.k1,cl h.k2,cl h.k3,cl h.k4⟩
theorem cr {W:World} {b:Nat} {v0 v1 v2 v3 v4:Value} {t:TypeId} (h:W.heap[b]?=some (.cells #[v0,v1,v2,v3,v4] t (0,0))) :
  (W.cell? ⟨b,0,none⟩=some v0∧W.cell? ⟨b,1,none⟩=some v1∧W.cell? ⟨b,2,none⟩=some v2∧W.cell? ⟨b,3,none⟩=some v3∧W.cell? ⟨b,4,none⟩=some v4)∧∀ j,W.frozen? ⟨b,j,none⟩=false :=
 ⟨⟨by simp [World.cell?,h],by simp [World.cell?,h],by simp [World.cell?,h],by simp [World.cell?,h],by simp [World.cell?,h]⟩,fun j=>by simp [World.frozen?,h]⟩
theorem fO (w:World) (o:Obj):(w.alloc o).heap[w.heap.size]?=some o:=aG w o
theorem ic (w:World) (o:Obj):∃ w1,w.alloc o=w1∧w1.heap[w.heap.size]?=some o∧Below w.heap.size w w1∧w.heap.size<w1.heap.size :=
 ⟨_,rfl,fO w o,(aj _ _).alloc (ae _) _,by simp⟩
end J
namespace K
open Go.Lib Go.Proofs.YtojoahlpgmnbnaaGreatDoor.U Go.Proofs.YtojoahlpgmnbnaaGreatDoor.S Go.Proofs.YtojoahlpgmnbnaaGreatDoor.T Go.Proofs.YtojoahlpgmnbnaaGreatDoor.J
def wO (o:Open):Nat:=1+o.k.length+o.t.length+oF o.kids
def lG:List Open→Nat
 | []=>0
 | o :: r=>wO o+lG r
section
variable {M:Nat} {i:Nat} {R l:List Stp} {O O':List Open} {s1:St}
theorem GN (a:Open) (p:Pt) (f:Int):wO (a.add p f)=wO a+rT p:=by
 show 1+a.k.length+a.t.length+oF (a.kids++[p])=_
 rw [BR,oF,oF];unfold wO;omega
theorem Sd {o:Open} {e:Int} {p:Pt} (h:o.close e=some p):rT p≤wO o:=by
 unfold Open.close at h
 split at h
 ·cases hk:o.kids with
  | nil=>rw [hk] at h;cases h
  | cons q r =>
   rw [hk] at h;cases h
   unfold wO;rw [hk,oF];omega
 ·split at h
  ·cases h;rw [rT];unfold wO;omega
  ·cases h;rw [rT];unfold wO;omega
theorem Oy {e:Int} (h:sF e O=some O'):lG O'≤lG O:=by
 match O,h with
 | o :: a :: r,h =>
  unfold sF at h
  dsimp only at h
  cases hc:o.close e with
  | none=>rw [hc] at h;cases h
  | some p =>
   rw [hc] at h;cases h;have:=Sd hc;rw [lG,lG,lG,GN];omega
theorem Fg {e s:Int}:∀ (r:List Open) (o:Open),settle e s o r=some O'→lG O'≤wO o+lG r
 | [],o,h=>by
  unfold settle at h
  split at h
  ·cases h
  ·cases h;rw [lG,lG];exact ae _
 | a :: r,o,h=>by
  unfold settle at h
  split at h
  ·have h1:=Fg r _ h
   rw [GN,rT] at h1;rw [lG];unfold wO at h1 ⊢;omega
  ·cases h;rw [lG,lG];exact ae _
theorem M6 {k:By} (h:oI k O=some O') (hk:k.length≤6):lG O'≤lG O+8:=by
 cases O with
 | nil=>cases h
 | cons a r =>
  unfold oI at h
  dsimp only at h
  cases hc:a.kids.getLast? with
  | none=>rw [hc] at h;cases h
  | some p =>
   rw [hc] at h;cases h
   have hd:a.kids=a.kids.dropLast++[p]:=by
    obtain ⟨ys,hy⟩:=List.getLast?_eq_some_iff.1 hc;rw [hy];simp
   have hw:oF a.kids=oF a.kids.dropLast+rT p:=by
    have h2:=congrArg oF hd;rw [BR,oF,oF] at h2
    omega
   rw [lG,lG,lG]
   unfold wO
   dsimp only;rw [hw,oF,oF];simp only [dM]
   omega
theorem Vi {t:By} (h:EC t O=some O') (ht:t.length≤M):lG O'≤lG O+M:=by
 cases O with
 | nil=>cases h
 | cons o r=>cases h;rw [lG,lG];unfold wO;dsimp only;omega
theorem Vj {t:By} (h:ED t O=some O') (ht:t.length≤6):lG O'≤lG O+6:=by
 cases O with
 | nil=>cases h
 | cons o r=>cases h;rw [lG,lG];unfold wO;dsimp only;omega
theorem Dh {k j:Nat} {o:Option (List Open)} (hs:nY k l o=.go s1) (ho:∀ O',o=some O'→lG O'≤j):lG s1.opn≤j:=by
 cases o with
 | none=>cases hs
 | some O'=>cases hs;exact ho O' rfl
end
variable {L:List aZ} {size M:Nat}
theorem Vk (hM:∀ i,(tok L size i).t.length≤M) {s s1:St} (hs:fC L size s=.go s1):lG s1.opn≤lG s.opn+(M+16):=by
 obtain ⟨i,todo,O⟩:=s
 cases todo with
 | nil=>cases hs
 | cons x R =>
  show lG s1.opn≤lG O+(M+16)
  have hop:∀ {kd:By} {l:List Stp},kd.length≤6→opened L size kd ⟨i,R,O⟩ l=.go s1→lG s1.opn≤lG O+(M+16):=fun hk h=>by
   cases h
   show lG (_ :: O)≤_
   rw [lG];unfold wO;dsimp only;rw [oF];simp only [dM];omega
  have Jj:∀ {l:List Stp},uh ⟨i,R,O⟩ l=.go s1→lG s1.opn≤lG O+(M+16):=fun h=>by cases h;exact Nat.le_add_right _ _
  have hvar:varDecl L size ⟨i,R,O⟩=.go s1→lG s1.opn≤lG O+(M+16):=hop (by decide);have hif:zK L size ⟨i,R,O⟩=.go s1→lG s1.opn≤lG O+(M+16):=hop (by decide);have hbl:xG L size ⟨i,R,O⟩=.go s1→lG s1.opn≤lG O+(M+16):=hop (by decide);have hex:EF ⟨i,R,O⟩=.go s1→lG s1.opn≤lG O+(M+16):=Jj
  have htx:∀ {l:List Stp} {k:Nat},nY k l (EC (tok L size i).t O)=.go s1→lG s1.opn≤lG O+(M+16):=fun h=>Dh h (fun O' hO=>by have:=Vi hO (hM i);omega)
  have hkd:∀ {t:By} {l:List Stp} {k:Nat},t.length≤6→nY k l (ED t O)=.go s1→lG s1.opn≤lG O+(M+16):=fun ht h=>Dh h (fun O' hO=>by have:=Vj hO ht;omega)
  have hwr:∀ {t:By} {l:List Stp},t.length≤6→nY i l (oI t O)=.go s1→lG s1.opn≤lG O+(M+16):=fun ht h=>Dh h (fun O' hO=>by have:=M6 hO ht;omega)
  have hsame:∀ {k:Nat} {l:List Stp},(IA.go ⟨k,l,O⟩:IA)=.go s1→lG s1.opn≤lG O+(M+16):=fun h=>by cases h;exact Nat.le_add_right _ _
  change exec L size x ⟨i,R,O⟩=.go s1 at hs
  cases x with
  | word t=>simp only [exec] at hs;split at hs;exact hsame hs;cases hs
  | lines m=>simp only [exec] at hs;split at hs;exact hsame hs;exact hsame hs
  | more m=>simp only [exec] at hs;split at hs;exact Jj hs;exact hsame hs
  | jE m=>simp only [exec] at hs;split at hs;exact hsame hs;exact Jj hs
  | kK m=>simp only [exec] at hs;split at hs;exact Jj hs;exact hsame hs
  | m k =>
   change bD L size k ⟨i,R,O⟩=.go s1 at hs
   cases k with
   | decl=>simp only [bD] at hs;(repeat' split at hs);exact hop (by decide) hs;exact hvar hs;exact hop (by decide) hs;cases hs
   | vw=>simp only [bD] at hs;exact hsame hs
   | nC=>simp only [bD] at hs;split at hs;exact hsame hs;cases hs
   | name=>simp only [bD] at hs;split at hs;exact htx hs;cases hs
   | params=>exact hop (by decide) hs
   | result =>
    simp only [bD] at hs
    split at hs
    ·split at hs
     ·cases hs
     ·cases O with
      | nil=>cases hs;exact Nat.le_add_right _ _
      | cons a r =>
       cases hs
       show lG (_ :: r)≤lG (a :: r)+_
       rw [lG,lG,GN,rT,oF];have:fJ.length=6:=rfl;simp only [dM]
       omega
    ·exact hop (by decide) hs
   | block=>exact hbl hs
   | fin =>
    simp only [bD,Bq] at hs
    split at hs
    ·cases hs
    ·exact Dh hs (fun O' hO=>by have:=Oy hO;omega)
   | field=>exact hop (by decide) hs
   | param=>exact hop (by decide) hs
   | typeOf=>simp only [bD] at hs;(repeat' split at hs);all_goals exact hop (by decide) hs
   | stmt=>simp only [bD] at hs;(repeat' split at hs);exact hvar hs;exact hop (by decide) hs;exact hif hs;exact hop (by decide) hs;exact hbl hs;exact hop (by decide) hs
   | returned=>simp only [bD] at hs;split at hs;exact hex hs;exact hsame hs
   | expr=>exact hex hs
   | assigned=>simp only [bD] at hs;(repeat' split at hs);exact hkd (by decide) hs;exact hkd (by decide) hs;exact hsame hs
   | otherwise=>simp only [bD] at hs;split at hs;exact Jj hs;exact hsame hs
   | pre=>simp only [bD] at hs;split at hs;exact hop (by decide) hs;exact Jj hs
   | between =>
    simp only [bD,q8] at hs
    split at hs
    ·cases hs
    ·split at hs
     ·cases hs
     ·rename_i O2 h2
      have h4:lG O2≤lG O:=by
       cases O with
       | nil=>cases h2
       | cons o r=>exact Fg r o h2
      split at hs
      ·exact Dh hs (fun O' hO=>by have:=M6 hO (by decide);omega)
      ·cases hs;exact aJ h4 (Nat.le_add_right _ _)
   | iY=>simp only [bD] at hs;split at hs;exact hif hs;exact hbl hs
   | text=>simp only [bD] at hs;split at hs;exact htx hs;cases hs
   | behind=>simp only [bD] at hs;(repeat' split at hs);exact hwr (by decide) hs;exact hwr (by decide) hs;exact hsame hs
   | operand=>simp only [bD] at hs;(repeat' split at hs);all_goals exact hop (by decide) hs
   | called =>
    simp only [bD] at hs
    split at hs
    ·cases O with
     | nil=>cases hs
     | cons o r =>
      have h1:pU.length=3:=rfl;have h2:jM.length=4:=rfl;have h3:mO.length=4:=rfl;dsimp only at hs
      repeat' split at hs
      all_goals
       cases hs
       show lG (_ :: r)≤lG (o :: r)+_
       rw [lG,lG];unfold wO;simp only [dM];omega
    ·exact hsame hs
theorem Vl (hM:∀ i,(tok L size i).t.length≤M) {n:Nat} {s s1:St} (h:Goes L size n s s1):lG s1.opn≤lG s.opn+n*(M+16):=by
 induction h with
 | refl n s=>omega
 | step h1 _ ih =>
  have h2:=Vk hM h1;rw [Nat.add_mul,Nat.one_mul]
  omega
theorem BS {right:Bool} {s:By} {p:Pt} (hs:s.length≤600) (h:oQ (fH right s)=.part p):rT p≤100000000:=by
 have hr:=Cm right s
 have hn:(fH right s).length≤s.length+1:=by
  have go:∀ (n:Nat) (l:By) (pos:Nat) (ended:Bool),(jK right n l pos ended).length≤n:=by
   intro n
   induction n with
   | zero=>intro l pos ended;exact ae _
   | succ n ih =>
    intro l pos ended
    cases l with
    | nil=>simp only [jK];split <;> simp
    | cons c r =>
     simp only [jK]
     split
     ·simp only [aH];exact iA (ih _ _ _)
     ·split
      ·exact bP (ih _ _ _)
      ·split
       ·exact bP (ih _ _ _)
       ·simp only [aH];exact iA (ih _ _ _)
  exact go _ s 0 false
 have hM:∀ i,(tok (fH right s) s.length i).t.length≤600:=by
  intro i
  have tx:∀ {L:List aZ} {a:Nat},yC s a L→∀ t∈L,t.t.length≤s.length:=by
   intro L
   induction L with
   | nil=>intro a _ t h;cases h
   | cons u r ih =>
    intro a h t ht
    cases h with
    | cons hk hl hr =>
     rcases bA.1 ht with rfl|ht
     ·rcases hk.text with ⟨_,h2,_⟩|⟨_,h2⟩
      ·rw [h2];exact aL _
      ·rw [h2,il,bC];omega
     ·exact ih hr t ht
  unfold tok
  cases h1:(fH right s)[i]? with
  | none=>simp
  | some t =>
   have:=tx hr t (List.mem_of_getElem? h1)
   show t.t.length≤600
   omega
 have hc:=Jm (size:=s.length) (E4 right s);rw [h] at hc;obtain ⟨i,f,hg⟩:=hc;have hw:=Vl hM hg
 have e1:lG [root.add p f]=1+rT p:=by
  rw [lG,lG,GN]
  show 1+0+0+oF []+rT p+0=_
  rw [oF];omega
 have e2:lG begun.opn=1:=by
  show lG [root]=1
  rw [lG,lG];show 1+0+0+oF []+0=1;rw [oF]
 rw [e2] at hw;have hw:lG [root.add p f]≤_:=hw;rw [e1] at hw;have hle:(100*(fH right s).length+100)*(600+16)≤60300*616:=Nat.mul_le_mul (by omega) (ae _)
 omega
end K
namespace J
open Go.RowKit
open Go.Lib hiding intOf
open U S T
theorem Bv {P:Program} {w:World} (base:Nat) (t ty e:TypeId) (i:TypeInfo) (size:Nat) (ht:P.underlying t=some (.slice e)) (hi:P.info? e=some i)
  (v:Value) (n:Nat) (xs:List Value) (bY:w.ownsRow base e size v n xs) (a:Option Addr) (c:Nat) :
  (Builtin.append_ #[t,t] ty #[v,.slice a 0 c]).run P w=.ok v w:=by
 rcases bY.2 with ⟨rfl,rfl⟩|⟨g,cap,cur,rfl,_,_,hnc,_⟩
 ·cases a <;> simp [Builtin.append_,run_underlying ht,sizeOf,typeInfo,hi,Builtin.lenOf,Builtin.firstCells,loadCells,loadCellsFrom]
 ·cases a <;> simp [Builtin.append_,run_underlying ht,sizeOf,typeInfo,hi,Builtin.lenOf,Builtin.firstCells,hnc,storeCells,loadCells,loadCellsFrom]
theorem LC (w:World) (row:Option Nat):w.grownBy w row:=⟨rfl,rfl,rfl,ae _,fun _ _ _=>rfl⟩
theorem ou {P:Program} {w:World} {ops:Array Oper} {rest:List Oper} {o:Oper} {a:Act} {Q:Exit→Act→World→Prop} (hgd:o.guard=none) (s x:Operand) (t:TypeId)
  (ho:o.op=.call { callee:=.builtin .append,args:=#[s,x],argTypes:=#[t,t] })
  (base:Nat) (e:TypeId) (i:TypeInfo) (z:Value) (size bytes:Nat) (ht:P.underlying t=some (.slice e)) (hi:P.info? e=some i) (hz:i.zero=some z)
  (hsize:i.size=size) (hby:i.bytes=bytes) (hzs:z.cells.size=size) (hsz:0<size)
  (v:Value) (n:Nat) (xs:List Value) (hs:a.eval s=v) (bY:w.ownsRow base e size v n xs)
  (ad:Option Addr) (m c:Nat) (news:List Value) (hx:a.eval x=.slice ad m c) (hl:news.length=m*size) (hnews:m=0∨∃ g off,ad=some ⟨g,off,none⟩∧dK w g off news) (h1:∀ u∈news,u.oneCell'=true)
  (h63:n+m≤maxLen) (hbytes:(n+m)*bytes≤140737488355328) (hbase:base≤w.heap.size)
  (h:∀ v' w',w'.ownsRow base e size v' (n+m) (xs++news)→w.grownBy w' v.ownBlock→(v'.ownBlock=v.ownBlock∨v'.ownBlock=some w.heap.size)→wpList P ops Q rest (a.put o.dst v') w'):wpList P ops Q (o :: rest) a w:=by
 rcases hnews with rfl|⟨g,off,rfl,hc⟩
 ·have hn:news=[]:=eG (by omega)
  subst hn
  refine wpList_plain hgd fun K hK=>?_
  have hrun:=Bv (P:=P) (w:=w) base t o.type e i size ht hi v n xs bY ad c
  unfold Oper.wp
  simp [execOp,ho,resolve,invoke,builtin,hs,hx,hrun,Result.andThen]
  refine hK _ _ (h v w ?_ (LC w _) (.inl rfl));rw [eB,bS];exact bY
 ·exact dG w hgd s x t ho base e i z size bytes ht hi hz hsize hby hzs hsz v n xs hs bY ⟨g,off,none⟩ m c news hx hl (fun j u hj=>by rw [Addr.add_lit];exact hc j u hj) h1 h63 hbytes hbase (fun v' w' a1 a2 _ a3=>h v' w' a1 a2 a3)
def sj:Pt→List Pt
 | .mk _ _ _ _ ks=>ks
def jm:List Pt→List Pt
 | []=>[]
 | p :: r=>sj p++jm r
theorem Ag:∀ (a b:List Pt),jm (a++b)=jm a++jm b
 | [],b=>rfl
 | p :: r,b=>by rw [bH,jm,jm,Ag r b,dC]
theorem Bw {l:List Pt} {i:Nat} (h:i<l.length):jm (l.take (i+1))=jm (l.take i)++sj l[i]:=by
 rw [dE h,Ag];simp [jm]
theorem BU:∀ l:List Pt,oF (jm l)+l.length≤oF l
 | []=>by simp [jm,oF]
 | .mk k t f e ks :: r=>by
  have:=BU r;rw [jm,oF,BR,aH,rT]
  show oF ks+_+_≤_
  omega
theorem xU:∀ l:List Pt,l≠[]→iO l=1+iO (jm l)
 | [.mk k t f e ks],_=>by
  rw [iO,iO,deep,jm,jm]
  show max (iO ks+1) 0=1+iO (ks++[])
  rw [eB];omega
 | .mk k t f e0 ks :: q :: r,_=>by
  have h:=xU (q :: r) (by simp)
  have happ:∀ a b:List Pt,iO (a++b)=max (iO a) (iO b):=by
   intro a b
   induction a with
   | nil=>rw [fA,iO];omega
   | cons x a ih=>rw [bH,iO,iO,ih];omega
  have e:jm (.mk k t f e0 ks :: q :: r)=ks++jm (q :: r):=rfl;rw [e,happ,iO,h,deep]
  omega
theorem aO.app {W:World} {R:Nat→Prop}:∀ {a b:List Pt} {xs ys:List Value},aO W R a xs→aO W R b ys→aO W R (a++b) (xs++ys)
 | [],_,xs,_,h,k=>by
  have h:xs=[]:=h;subst h
  exact k
 | p :: r,_,xs,ys,h,k=>by
  obtain ⟨lv,rest,rfl,h2,h3⟩:=h
  exact ⟨lv,rest++ys,by rw [dC],h2,aO.app h3 k⟩
def Jy (W:World) (R:Nat→Prop) (l:List Pt) (v:Value):Prop:=∃ a c,v=.slice a l.length c∧(l=[]∨∃ g off xs,a=some ⟨g,off,none⟩∧dK W g off xs∧aO W R l xs)
theorem CL (p:Pt) (lv:Value) (h:∃ a n c,lv=.slice a n c):∀ u∈five p lv,u.oneCell'=true:=by
 obtain ⟨a,n,c,rfl⟩:=h
 cases p
 intro u hu;simp only [five,bA,ek,or_false] at hu
 rcases hu with rfl|rfl|rfl|rfl|rfl <;> rfl
theorem Ah {W:World} {R:Nat→Prop}:∀ {l:List Pt} {xs:List Value},aO W R l xs→∀ u∈xs,u.oneCell'=true
 | [],xs,h,u,hu=>by rw [show xs=[] from h] at hu;cases hu
 | p :: r,xs,h,u,hu=>by
  obtain ⟨lv,rest,rfl,h2,h3⟩:=h
  rcases List.mem_append.1 hu with hu|hu
  ·obtain ⟨k,t,f,e,ks⟩:=p
   obtain ⟨a,c,rfl⟩:=eF h2
   exact CL _ _ ⟨_,_,_,rfl⟩ u hu
  ·exact Ah h3 u hu
theorem row_in {W:World} {R:Nat→Prop} {B m:Nat} {v:Value} {l:List Pt} {xs:List Value} (h:W.ownsRow B 49 5 v m xs) (hm:l.length=m) (hp:aO W R l xs):Jy W R l v:=by
 subst hm
 rcases h.2 with ⟨rfl,h0⟩|⟨g,cap,cur,rfl,_⟩
 ·exact ⟨none,0,by rw [h0],.inl (eG h0)⟩
 ·refine ⟨some ⟨g,0,none⟩,cap,rfl,.inr ⟨g,0,xs,rfl,fun j u hj=>?_,hp⟩⟩
  have hj2:=(aN.1 hj).1;have hl:=h.1;rw [bz,h.cellAt j (by omega)];exact hj
theorem EO:(Tryz.prog.info? 49).map (fun i=>(i.zero,i.size,i.bytes))=some (some (.agg #[.string ⟨#[]⟩,.string ⟨#[]⟩,.int .i64 0,.int .i64 0,.slice none 0 0]),5,72):=by kernel_rfl
theorem LD {w:World} {R:Nat→Prop} {l:List Pt} {v:Value} (hv:Jy w R l v) (hw:oF l≤1099511627776) :
  Calls Tryz.prog 105 #[v] w fun e w'=>∃ v',e=.returned v'∧Jy w' R (jm l) v'∧Below w.heap.size w w':=by
 obtain ⟨a,c,rfl,hrow⟩:=hv;obtain ⟨iP,hi0,hz0,hz1,hz2⟩:=fF EO;have HR:=hid hrow;have hlb:l.length≤1099511627776:=aJ (kX l) hw;have ZR:=BU l;have HW:=hid (show oF (jm l)≤1099511627776 by omega);obtain ⟨n,hn⟩:∃ n,l.length=n:=⟨_,rfl⟩;have HN:=hid hn;rw [hn] at hlb;rw [hn];clear hrow hn hw ZR
 go_enter Tryz.func105,Tryz.ntmps105
 go_wp2_with fail
 go_loopw [3,8] (fun vv iv wr=>∃ (i m:Nat) (ys:List Value),iv=.int .i64 i∧i≤n∧Hid (m=(jm (l.take i)).length)∧Hid (aO w R (jm (l.take i)) ys)∧Hid (wr.ownsRow w.heap.size 49 5 vv m ys)∧Hid (Below w.heap.size w wr)) (fun _ iv _=>n - (Go.RowKit.intOf iv).toNat)
 case atStart=>exact ⟨0,0,[],rfl,aL _,hid rfl,hid rfl,hid (dD _ _ _ _),hid (aj _ _)⟩
 case round =>
  obtain ⟨i,m,ys,rfl,hi,HM,HP,HO,HB⟩:=hrel;obtain ⟨va,vc,rfl⟩:=fD HO.out
  by_cases hlt:i<n
  ·have hll:i<l.length:=by rw [HN.out];exact hlt
   obtain ⟨g,off,xs,rfl,hc,hp⟩:=HR.out.resolve_left (fun h=>by rw [h] at hll;exact bq _ hll);obtain ⟨k',t',f',e',ks',a',c',hK⟩:=Af hp hc i hll;have hrow':=mU hK.kids
   have hks:sj l[i]=ks':=by rw [hK.eq];rfl
   have hts:=Bw hll;rw [hks] at hts;have htot:oF (jm l)≤1099511627776:=HW.out
   have hmk:m+ks'.length≤1099511627776:=by
    have h1:(jm (l.take (i+1))).length≤(jm l).length:=by
     have h2:jm l=jm (l.take (i+1))++jm (l.drop (i+1)):=by rw [← Ag,List.take_append_drop]
     rw [h2,aM];omega
    have h3:=kX (jm l);rw [hts,aM,← HM.out] at h1
    omega
   obtain ⟨zs,hz,hcz,hlz⟩:∃ zs,aO w R ks' zs∧(ks'.length=0∨∃ g off,a'=some ⟨g,off,none⟩∧dK w g off zs)∧zs.length=ks'.length*5:=by
    rcases hrow'.2.2 with rfl|⟨g',off',zs,rfl,_,h2,h3⟩
    ·exact ⟨[],rfl,.inl rfl,rfl⟩
    ·exact ⟨zs,h3,.inr ⟨g',off',rfl,h2⟩,by have:=aO.length h3;omega⟩
   have hone:=Ah hz;have kG:=hid (show m+ks'.length=(jm (l.take (i+1))).length by rw [hts,aM,← HM.out]);have Es:=hid (show aO w R (jm (l.take (i+1))) (ys++zs) by rw [hts];exact aO.app HP.out hz);have hKb:=hK.below HB.out;have j0:=hKb.k0;have j1:=hKb.k1;have j2:=hKb.k2;have j3:=hKb.k3;have j4:=hKb.k4;obtain ⟨kb,hkb⟩:∃ x,aU k'=x:=⟨_,rfl⟩;obtain ⟨tb,htb⟩:∃ x,aU t'=x:=⟨_,rfl⟩;rw [hkb] at j0;rw [htb] at j1
   have hcz2:∀ X,Below w.heap.size w X→(ks'.length=0∨∃ g off,a'=some ⟨g,off,none⟩∧dK X g off zs):=fun X hX=>hcz.imp id (fun ⟨g,off,h1,h2⟩=>⟨g,off,h1,fun j u hj=>(hX.cell (bB w _ (h2 j u hj))).trans (h2 j u hj)⟩)
   have HCZ:=hid hcz2;have hbw:=HB.out.size;obtain ⟨kn,hkn⟩:∃ kn,ks'.length=kn:=⟨_,rfl⟩;rw [hkn] at hmk kG j4 hlz HCZ;have YA:=hid hlz;have Vm:=hid hone;clear hp hc hK hrow' hks hts htot hz hcz hKb hkb htb hcz2 hlz hone hkn HM HP
   go_upto_region 5 with fail
   obtain ⟨w1,hw1,hq1,hb1,hz1⟩:=ic wr (.cells #[.string kb,.string tb,.int .i64 f',.int .i64 e',.slice a' kn c'] 49);rw [hw1];obtain ⟨⟨q0,q1,q2,q3,q4⟩,qf⟩:=cr hq1;have HO1:=hid (aV HO.out hb1);have HB1:=hid (HB.out.trans (hb1.mono hbw));have Ai:=HB1.out.size;clear hq1 hb1 hw1 hz1 j0 j1 j2 j3 j4
   go_wp2_with (at_builtin;refine ou rfl _ _ 47 rfl w.heap.size 49 iP _ 5 72 Tryz.underlying47 hi0 hz0 hz1 hz2 rfl (by decide) _ m ys rfl HO1.out _ kn c' zs rfl YA.out (HCZ.out _ HB1.out) Vm.out (by unfold maxLen;omega) (by omega) Ai ?_)
   intro v' w2 bY aP _;have uo:=hid bY;have HB2:=hid (HB1.out.grown aP Ai (fun b hb=>(HO1.out.lt b hb).1));clear bY aP
   go_wp2_with fail
   go_roundw
   case rel=>exact ⟨i+1,m+kn,ys++zs,by go_num,by omega,kG,Es,uo,HB2⟩
   case measure=>simp [Go.RowKit.intOf];omega
  ·obtain rfl:i=n:=by omega
   go_wp2_with fail
   go_ret
   have ht:l.take i=l:=bX (by rw [HN.out];exact ae _);have hP:=HP.out;have hM:=HM.out;rw [ht] at hP hM
   exact ⟨_,rfl,row_in HO.out hM.symm (si hP HB.out),HB.out⟩
theorem Se {w:World} {R:Nat→Prop} (p:Pt) {lv:Value} (hv:aT w R p lv) (hw:rT p≤1099511627776) :
  Calls Tryz.prog 77 #[arg p lv] w fun e w'=>e=.returned (.int .i64 (deep p))∧Below w.heap.size w w':=by
 obtain ⟨k,t,f,e,ks⟩:=p;obtain ⟨a,c,rfl⟩:=eF hv;have HV:=hid hv;obtain ⟨D,hD⟩:∃ D,deep (.mk k t f e ks)=D:=⟨_,rfl⟩
 have hdl:iO [.mk k t f e ks]=D:=by rw [iO,iO,hD];omega
 have hDw:D≤1099511627776:=by
  have hdw:∀ (n:Nat) (l:List Pt),oF l≤n→iO l≤oF l:=by
   intro n
   induction n with
   | zero=>intro l h;cases l with
    | nil=>rw [iO];exact aL _
    | cons p r=>have:=M4 p;rw [oF] at h;omega
   | succ n ih =>
    intro l h
    by_cases h0:l=[]
    ·rw [h0,iO];exact aL _
    ·have h1:=BU l
     have h2:0<l.length:=List.length_pos_iff.2 h0;have h3:=ih (jm l) (by omega);rw [xU l h0];omega
  have h1:=hdw _ [.mk k t f e ks] (ae _);rw [hdl] at h1;rw [oF,oF] at h1
  omega
 have HD:=hid hdl;have HWT:=hid (show oF [.mk k t f e ks]≤1099511627776 by rw [oF,oF];omega);rw [hD];simp only [arg,five];obtain ⟨kb,hkb⟩:∃ x,aU k=x:=⟨_,rfl⟩;obtain ⟨tb,htb⟩:∃ x,aU t=x:=⟨_,rfl⟩;have HKT:=hid (And.intro hkb htb);rw [hkb,htb];obtain ⟨n,hn⟩:∃ n,ks.length=n:=⟨_,rfl⟩;have HN:=hid hn;rw [hn];clear hv hD hdl hw hkb htb hn
 go_enter Tryz.func77,Tryz.ntmps77
 go_upto_region 2 with fail
 obtain ⟨w1,hw1,hq1,hb1,hz1⟩:=ic w (.cells #[.string kb,.string tb,.int .i64 f,.int .i64 e,.slice a n c] 49);obtain ⟨⟨q0,q1,q2,q3,q4⟩,qf⟩:=cr hq1;have HB1:=hid hb1;rw [hw1];clear hq1 hb1 hw1
 go_wp2_with fail
 obtain ⟨w2,hw2,hq2,hb2,hz2⟩:=ic w1 (.cells #[.string kb,.string tb,.int .i64 f,.int .i64 e,.slice a n c] 49);rw [hw2];have HB2:=hid (HB1.out.trans (hb2.mono HB1.out.size))
 have XQ:Hid (Jy w2 R [.mk k t f e ks] (.slice (some ⟨w1.heap.size,0,none⟩) 1 1)):=hid ⟨_,1,rfl,.inr ⟨w1.heap.size,0,five (.mk k t f e ks) (.slice a ks.length c),rfl,fun j u hj=>by
  have h:(five (.mk k t f e ks) (.slice a ks.length c))=[.string kb,.string tb,.int .i64 f,.int .i64 e,.slice a n c]:=by rw [five,HKT.out.1,HKT.out.2,HN.out]
  rw [h] at hj;rw [bz]
  unfold World.cell?
  rw [hq2]
  simpa using hj,⟨_,[],by rw [eB],dH HV.out HB2.out,rfl⟩⟩⟩
 clear hw2 hq2 hb2 hz1 hz2 q0 q1 q2 q3 q4 qf;obtain ⟨N0,hN0⟩:∃ N0,oF [.mk k t f e ks]=N0:=⟨_,rfl⟩;have ZS:=hid hN0;have hDb:=hDw;clear hN0
 go_loopg [3,4] N0 (fun N kv vv wr=>∃ (d:Nat) (l:List Pt),kv=.int .i64 d∧d≤D∧Hid (d+iO l=D)∧Hid (oF l=N)∧Hid (N≤1099511627776)∧Hid (Jy wr R l vv)∧Hid (Below w.heap.size w wr))
 case atStart=>exact ⟨0,_,rfl,aL _,hid (by rw [HD.out];omega),ZS,hid (by have:=HWT.out;have:=ZS.out;omega),XQ,HB2⟩
 case round =>
  obtain ⟨d,l,rfl,hd,YB,HNl,HNb,HR,HB⟩:=hrel;have hbw:=HB.out.size
  by_cases h0:l=[]
  ·subst h0
   have hDL:=YB.out;rw [iO,bS] at hDL;subst hDL;obtain ⟨va,vc,rfl,_⟩:=HR.out;have hz:([]:List Pt).length=0:=rfl;rw [hz];clear hz
   go_wp2_with fail
   go_ret
   exact ⟨rfl,HB.out⟩
  ·have hpos:=List.length_pos_iff.2 h0
   have ZR:=BU l;have hdk:=xU l h0;have cK:=LD HR.out (by have:=HNl.out;have:=HNb.out;omega);have ae3:=hid (show d+1+iO (jm l)=D by have:=YB.out;omega)
   have hd2:d+1≤D:=by have:=YB.out;omega
   have ZT:=hid (Nat.lt_of_lt_of_eq (show oF (jm l)<oF l by omega) HNl.out);obtain ⟨va,vc,rfl,_⟩:=HR.out;obtain ⟨n',hn'⟩:∃ n',l.length=n':=⟨_,rfl⟩;rw [hn'] at cK hpos;rw [hn'];clear ZR hdk YB HR hn'
   go_wp2_with fail
   refine cK.mono ?_;rintro e w3 ⟨v',rfl,hr3,hb3⟩;have HR3:=hid hr3;have HB3:=hid (HB.out.trans (hb3.mono hbw));clear cK hr3 hb3
   go_wp2_with fail
   go_roundg (oF (jm l))
   case rel=>exact ⟨d+1,jm l,by go_num,hd2,ae3,hid rfl,hid (by have:=ZT.out;have:=HNb.out;omega),HR3,HB3⟩
   case measure=>have:=ZT.out;omega
end J
end Go.Proofs.YtojoahlpgmnbnaaGreatDoor
