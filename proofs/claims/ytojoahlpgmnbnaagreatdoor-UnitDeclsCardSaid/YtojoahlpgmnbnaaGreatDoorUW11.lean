/- What the claim needs of the texts KScan, KNew, JMem, KWt, JDeep. -/
import Derived.Test.YtojoahlpgmnbnaaGreatDoorUWOp
import Derived.Test.YtojoahlpgmnbnaaGreatDoorUW10
import Derived.Test.YtojoahlpgmnbnaaGreatDoorUW2
import Derived.Deep.QuietTactic
import Derived.Deep.LoopGhost
import Derived.Deep.RegionHeld3
import Derived.Deep.RegionWith
import Derived.BigQuiet
import Derived.BigRegion
import Derived.Deep.DeepCutAuto
import Derived.Test.YtojoahlpgmnbnaaGreatDoorUW9
import Derived.Laws.AppendOwn
import Derived.Laws.OwnMore
import Derived.OwnWalk
import Derived.Maps.AppendAt
set_option maxRecDepth 20000
set_option maxHeartbeats 16000000
namespace Go.Proofs.YtojoahlpgmnbnaaGreatDoor
namespace S
open Go.RowKit
open Go.Lib hiding intOf
open U L
theorem jm {B B' n size:Nat} {e:TypeId} {v:Value} {xs:List Value} {W:World} (h:W.ownsRow B' e size v n xs) (hB:B≤B'):W.ownsRow B e size v n xs:=by
 refine ⟨h.1,?_⟩
 rcases h.2 with h|⟨g,cap,cur,h1,h2,h3⟩
 ·exact .inl h
 ·exact .inr ⟨g,cap,cur,h1,aJ hB h2,h3⟩
theorem Sr (s:ByteArray) (w:World) (hs:s.size≤1099511627776) (hT:rM w) :
  Calls Tryz.prog 48 #[.string s] w fun e w'=>∃ v,e=.returned v∧w'.ownsRow w.heap.size 86 4 v (fD (okB s) s.toList).length (fV (fD (okB s) s.toList))∧Below w.heap.size w w':=by
 have cR:=Fy s w hs hT;obtain ⟨r,hr⟩:∃ r,okB s=r:=⟨_,rfl⟩;have Jr:Hid (og r s 0 []):=hid (xY r s (fun h=>by rw [hr];exact h));rw [hr] at cR ⊢;clear hr
 go_enter Tryz.func48,Tryz.ntmps48
 go_wp2_with fail
 refine cR.mono ?_;rintro e w1 ⟨rfl,hb1⟩;have HB1:=hid hb1;clear cR hb1
 go_wp2_with fail
 obtain ⟨d,hd⟩:∃ d,w1.heap.size=d:=⟨_,rfl⟩;obtain ⟨W0,hW0⟩:∃ W,w1.alloc (.cells #[.string s,.bool r,.int .i64 0,.slice none 0 0] 107)=W:=⟨_,rfl⟩;have HB0:Hid (qX d s r ((0:Nat):Int) (.slice none 0 0) W0):=hid (by rw [← hd,← hW0];exact aG w1 _);have HL0:Hid (Below d w1 W0):=hid (by rw [← hW0];exact (ah d w1).alloc (by omega) _)
 have hwd:w.heap.size≤d:=by have:=HB1.out.size;omega
 rw [hd,hW0];clear hW0 hd
 go_loopw [] (fun wr=>∃ (i:Nat) (O:List bn) (v:Value),i≤s.size∧Hid (qX d s r i v wr)∧Hid (Row d v O wr)∧Hid (og r s i O)∧Hid (vo (d+1) d W0 wr)) (fun wr=>s.size - Jo d wr)
 case atStart=>exact ⟨0,[],_,aM _,HB0,hid (dB _ _ _ _),Jr,hid (vo.refl _ _ _)⟩
 case round =>
  obtain ⟨i,O,v,hi,HB,HR,HS,HM⟩:=hrel;clear Jr HB0;have h2:=HB.out.c2;have hat:=HB.out.at
  by_cases hlt:i<s.size
  ·have cS:=zh d s r i v O wr HB.out HR.out HS.out hlt hs
   go_wp2_with fail
   refine cS.mono ?_;rintro e w2 ⟨j,O2,hij,hjs,hS2,rfl,v2,hB2,hR2,hM2⟩;have Ex:=hB2.at;have HB2:=hid hB2;have HR2:=hid hR2;have HS2:=hid hS2;have kG:=hid (HM.out.trans hM2);clear cS hB2 hR2 hS2 hM2 h2
   go_wp2_with fail
   go_roundw
   case rel=>exact ⟨j,O2,v2,hjs,HB2,HR2,HS2,kG⟩
   case measure=>rw [hat,Ex];omega
  ·obtain rfl:i=s.size:=by omega
   have cM:=yj d s r s.size v O wr HB.out HR.out (by have:=HS.out.few;omega);clear hat
   go_wp2_with fail
   refine cM.mono ?_;rintro e w2 ⟨rfl,hb2⟩;have HB2:=hid (HB.out.below hb2);have HR2:Hid (Row d v O w2):=hid (aR HR.out hb2);have hdw:=HB.out.lt;have kG:Hid (vo (d+1) d W0 w2):=hid (HM.out.trans (vo.of_below (⟨hb2.os,hb2.tape,hb2.output,hb2.size,fun k hk=>hb2.block k (by omega)⟩:Below (d+1) wr w2)))
   have hfin:∀ (w':World),vo (d+1) d W0 w'→Below w.heap.size w w':=fun w' hm =>
    HB1.out.trans ((HL0.out.trans ((hm.mono (dY d)).below (ae d))).mono hwd)
   have HF:=hid hfin;clear cM hb2 h2 hfin
   cases hen:sW O
   ·have HX:Hid (fD r s.toList=O):=hid (by have h:=HS.out.all;rw [nL,hen] at h;simpa using h)
    have h3:=HB2.out.c3;clear hen
    go_wp2_with fail
    go_ret
    exact ⟨_,rfl,by rw [HX.out];exact jm HR2.out (by omega),HF.out _ kG.out⟩
   ·have HX:Hid (fD r s.toList=O++[⟨5,[],s.size,s.size⟩]):=hid (by have h:=HS.out.all;rw [nL,hen] at h;simpa using h)
    have cT:=fB d s r s.size 0 5 v O w2 HB2.out HR2.out (by have:=HS.out.few;omega) hs (by omega);rw [Sq] at cT;clear hen
    go_wp2_with fail
    refine cT.mono ?_;rintro e w3 ⟨rfl,v3,hB3,Eu,vB⟩;have h3:=hB3.c3;have HR3:=hid Eu;have lh:=hid (kG.out.trans vB);clear cT hB3 Eu vB
    go_wp2_with fail
    go_ret
    exact ⟨_,rfl,by rw [HX.out];exact jm HR3.out (by omega),HF.out _ lh.out⟩
end S
namespace K
open Go.RowKit
open Go.Lib hiding intOf
open U S T
theorem abk:(Tryz.prog.info? 86).map (fun i=>(i.zero,i.size,i.bytes))=some (some (.agg #[.int .i64 0,.string ⟨#[]⟩,.int .i64 0,.int .i64 0]),4,40):=by kernel_rfl
theorem qj (t:bn):∀ u∈qM t,u.oneCell'=true:=by
 intro u hu;simp only [qM,bB,ed,or_false] at hu
 rcases hu with rfl|rfl|rfl|rfl <;> rfl
theorem pF {B B' n m size abl:Nat} {e e':TypeId} {v v':Value} {xs ys:List Value} {X X':World} (h:X.ownsRow B e size v n xs) (k:X.ownsRow B' e' abl v' m ys) (hne:e≠e') (hg:X.grownBy X' v'.ownBlock):X'.ownsRow B e size v n xs:=by
 refine h.kept hg ?_
 cases hv:v.ownBlock with
 | none=>simp
 | some b =>
  cases hv':v'.ownBlock with
  | none=>simp
  | some b' =>
   have:b≠b':=fun e1=>by
    subst e1
    exact hne ((cZ h hv).one (cZ k hv'))
   simp [this]
theorem kY (right:Bool):∀ (n:Nat) (l:By) (pos:Nat) (ended:Bool),(jJ right n l pos ended).length≤n
 | 0,_,_,_=>ae _
 | n+1,[],pos,ended=>by simp only [jJ];split <;> simp
 | n+1,c :: r,pos,ended=>by
  simp only [jJ]
  split
  ·simp only [aH];exact iq (kY right n _ _ _)
  ·split
   ·exact bO (kY right n _ _ _)
   ·split
    ·exact bO (kY right n _ _ _)
    ·simp only [aH];exact iq (kY right n _ _ _)
theorem FB (right:Bool) (l:By):(fD right l).length≤l.length+1:=kY right _ l 0 false
theorem lt3 {X:World} {g:Nat} {o:Obj} (h:X.heap[g]?=some o):g<X.heap.size:=(af.1 h).1
theorem below_grown {m size:Nat} {e:TypeId} {v:Value} {ys:List Value} {W0 X X':World} (h:Below W0.heap.size W0 X) (k:X.ownsRow W0.heap.size e size v m ys) (hg:X.grownBy X' v.ownBlock):Below W0.heap.size W0 X':=h.grown hg h.size (fun b hb=>(k.lt b hb).1)
def wz:List Value:=[.string ⟨#[]⟩,.string ⟨#[]⟩,.int .i64 0,.int .i64 0,.slice none 0 0,.int .i64 0]
theorem Vh {W0 X:World} {L:List bn} {size n g4 c4 g5:Nat} (hL:L.length=n) (hb:Below W0.heap.size W0 X) (h4:X.ownsRow W0.heap.size 86 4 (.slice (some ⟨g4,0,none⟩) (n+1) c4) (n+1) (fV L++qM (tq size))) (h5:X.ownsRow W0.heap.size 128 6 (.slice (some ⟨g5,0,none⟩) 1 1) 1 wz) :
  ∃ O,Mem X.heap.size L size (.slice (some ⟨g4,0,none⟩) (n+1) c4) ⟨0,[],[root]⟩ O (X.alloc (.cells #[.slice (some ⟨g4,0,none⟩) (n+1) c4,.int .i64 0,.slice none 0 0,.slice (some ⟨g5,0,none⟩) 1 1] 123))∧Below W0.heap.size W0 (X.alloc (.cells #[.slice (some ⟨g4,0,none⟩) (n+1) c4,.int .i64 0,.slice none 0 0,.slice (some ⟨g5,0,none⟩) 1 1] 123))∧∀ k,O k→W0.heap.size≤k:=by
 have hbX:Below X.heap.size X (X.alloc (.cells #[.slice (some ⟨g4,0,none⟩) (n+1) c4,.int .i64 0,.slice none 0 0,.slice (some ⟨g5,0,none⟩) 1 1] 123)):=(ah _ _).alloc (ae _) _;have hz:=hb.size;have l4:=h4.lt g4 rfl;have l5:=h5.lt g5 rfl;have t4:=cZ h4 (k:=g4) rfl;have t5:=cZ h5 (k:=g5) rfl
 have hne:g4≠g5:=fun e=>by rw [e] at t4;exact absurd (t4.one t5) (by decide)
 have hq:=fI X (.cells #[.slice (some ⟨g4,0,none⟩) (n+1) c4,.int .i64 0,.slice none 0 0,.slice (some ⟨g5,0,none⟩) 1 1] 123);have h4':=aR h4 hbX;have h5':=aR h5 hbX;have t4':=cZ h4' (k:=g4) rfl;generalize hW:X.alloc (.cells #[.slice (some ⟨g4,0,none⟩) (n+1) c4,.int .i64 0,.slice none 0 0,.slice (some ⟨g5,0,none⟩) 1 1] 123)=W at hbX hq h4' h5' t4' ⊢
 refine ⟨fun k=>k=X.heap.size∨k=g5,⟨.slice none 0 0,.slice (some ⟨g5,0,none⟩) 1 1,[none],[],wz,hq,?_,dB _ _ _ _,rfl,jm h5' (aM _),?_,?_,?_⟩,hb.trans (hbX.mono hz),?_⟩
 ·refine ⟨g4,0,c4,by rw [hL],⟨aC l4.2 hbX.size,fun h=>?_,?_⟩,?_⟩
  ·rcases h with h|h
   ·omega
   ·exact hne h
  ·obtain ⟨cs,fr,h⟩:=t4'
   exact ⟨_,h,rfl⟩
  ·intro j u hj
   have e:fV (L++[tq size])=fV L++qM (tq size):=by rw [oZ];simp [fV]
   rw [e] at hj
   have hl:(fV L++qM (tq size)).length=(n+1)*4:=by rw [aO,qN,hL];simp [qM];omega
   have hj2:=(aL.1 hj).1;rw [bA,h4'.cellAt j (by omega)]
   exact hj
 ·exact ⟨.slice none 0 0,[],[],[],rfl,rfl,dB _ _ _ _,rfl,rfl,rfl⟩
 ·exact ⟨fun g h=>by (cases h),trivial⟩
 ·intro k
  simp [Value.ownBlock]
  constructor
  ·rintro (h|h)
   ·exact .inl h
   ·exact .inr h.symm
  ·rintro (h|h)
   ·exact .inl h
   ·exact .inr h.symm
 ·rintro k (rfl|rfl)
  ·omega
  ·exact l5.1
theorem OV (W:World):(Instr.makeSlice 120 (.int .i64 1) (.int .i64 1)).run Tryz.prog W=.ok (.slice (some ⟨W.heap.size,0,none⟩) 1 1) (W.alloc (.cells #[.string ⟨#[]⟩,.string ⟨#[]⟩,.int .i64 0,.int .i64 0,.slice none 0 0,.int .i64 0] 128)):=by
 obtain ⟨iB,hi0,hz0,hz1,hz2⟩:=eB QE;have h:=run_makeSlice (P:=Tryz.prog) (w:=W) 120 128 iB _ Tryz.underlying120 hi0 hz0 .i64 .i64 1 1 (by decide) (by decide) (by rw [hz1];decide) (by rw [hz2];decide) (by decide);rw [hz1,show madeCells (Value.agg #[.string ⟨#[]⟩,.string ⟨#[]⟩,.int .i64 0,.int .i64 0,.slice none 0 0,.int .i64 0]).cells (Int.toNat 1*6)=#[.string ⟨#[]⟩,.string ⟨#[]⟩,.int .i64 0,.int .i64 0,.slice none 0 0,.int .i64 0] from by kernel_rfl] at h
 exact h
theorem pG (W:World):(W.alloc (.cells #[.string ⟨#[]⟩,.string ⟨#[]⟩,.int .i64 0,.int .i64 0,.slice none 0 0,.int .i64 0] 128)).ownsRow W.heap.size 128 6 (.slice (some ⟨W.heap.size,0,none⟩) 1 1) 1 wz :=
 ⟨rfl,.inr ⟨W.heap.size,1,_,rfl,ae _,fI _ _,by decide,by unfold maxLen;decide,rfl,rfl⟩⟩
theorem Ch (s:ByteArray) (w:World) (hs:s.size≤1000000000000) (hlw:(fD (okB s) s.toList).length≤1000001) (hT:rM w) :
  Calls Tryz.prog 75 #[.string s] w fun e w'=>∃ d lv O,e=.returned (ptr d)∧Mem d (fD (okB s) s.toList) s.size lv ⟨0,[],[root]⟩ O w'∧Below w.heap.size w w'∧∀ k,O k→w.heap.size≤k:=by
 obtain ⟨L,hL⟩:∃ L,fD (okB s) s.toList=L:=⟨_,rfl⟩
 have hlen:L.length≤1000001:=by rw [← hL];exact hlw
 obtain ⟨n,hn⟩:∃ n,L.length=n:=⟨_,rfl⟩;rw [hn] at hlen;obtain ⟨iT,hi0,hz0,hz1,hz2⟩:=eB abk;obtain ⟨z,hz⟩:∃ z,s.size=z:=⟨_,rfl⟩;have YF:=hid hs;clear hlw;have Nq:=hid hT;have HZ:=hid hz;have hmk:=OV;rw [hz] at hs;rw [hL,hz];have HLn:=hid hn;have HLL:=hid hL;clear hT hL hn
 go_enter Tryz.func75,Tryz.ntmps75
 go_upto_region 2 with fail
 obtain ⟨W0,hW0⟩:∃ W0,w.alloc (.cells #[.int .i64 (-1),.string ⟨#[]⟩,.int .i64 z,.int .i64 z] 86)=W0:=⟨_,rfl⟩
 have hq0:W0.heap[w.heap.size]?=some (.cells #[.int .i64 (-1),.string ⟨#[]⟩,.int .i64 z,.int .i64 z] 86 (0,0)):=by rw [← hW0];exact fI _ _
 have hbw:Below w.heap.size w W0:=by rw [← hW0];exact (ah _ _).alloc (ae _) _
 have hzw:w.heap.size<W0.heap.size:=by rw [← hW0];simp
 rw [hW0];have HBW:=hid hbw;have HZW:=hid hzw
 have HC:Hid (∀ X,Below W0.heap.size W0 X→Calls Tryz.prog 48 #[.string s] X fun e X'=>∃ v,e=.returned v∧X'.ownsRow W0.heap.size 86 4 v n (fV L)∧Below X.heap.size X X'):=hid (fun X hX=>(Sr s X (by omega) (Nq.out.later (hbw.trans (hX.mono (by omega))))).mono (by
  rintro e X' ⟨v,h1,h2,h3⟩;rw [HLL.out,HLn.out] at h2
  exact ⟨v,h1,jm h2 (by have:=hX.size;omega),h3⟩))
 have hq:∀ X,Below W0.heap.size W0 X→X.cell? ⟨w.heap.size,0,none⟩=some (.int .i64 (-1))∧X.cell? ⟨w.heap.size,1,none⟩=some (.string ⟨#[]⟩)∧X.cell? ⟨w.heap.size,2,none⟩=some (.int .i64 z)∧X.cell? ⟨w.heap.size,3,none⟩=some (.int .i64 z):=fun X hX=>by
  have h:=(hX.block w.heap.size (by omega)).trans hq0
  exact ⟨by simp [World.cell?,h],by simp [World.cell?,h],by simp [World.cell?,h],by simp [World.cell?,h]⟩
 have HQ:=hid hq
 have HE:Hid (∀ X g4 c4 g5,Below W0.heap.size W0 X→X.ownsRow W0.heap.size 86 4 (.slice (some ⟨g4,0,none⟩) (n+1) c4) (n+1) (fV L++qM (tq z))→X.ownsRow W0.heap.size 128 6 (.slice (some ⟨g5,0,none⟩) 1 1) 1 wz →
   ∃ O,Mem X.heap.size L z (.slice (some ⟨g4,0,none⟩) (n+1) c4) ⟨0,[],[root]⟩ O (X.alloc (.cells #[.slice (some ⟨g4,0,none⟩) (n+1) c4,.int .i64 0,.slice none 0 0,.slice (some ⟨g5,0,none⟩) 1 1] 123))∧Below w.heap.size w (X.alloc (.cells #[.slice (some ⟨g4,0,none⟩) (n+1) c4,.int .i64 0,.slice none 0 0,.slice (some ⟨g5,0,none⟩) 1 1] 123))∧∀ k,O k→w.heap.size≤k):=hid (fun X g4 c4 g5 h1 h2 h3=>by
  obtain ⟨O,e1,e2,e3⟩:=Vh (size:=z) HLn.out h1 h2 h3
  exact ⟨O,e1,HBW.out.trans (e2.mono (by have:=HZW.out;omega)),fun k hk=>by have:=e3 k hk;have:=HZW.out;omega⟩)
 have hb0:Below W0.heap.size W0 W0.drew:=(ah _ _).drew;have HB0:=hid hb0;clear hq hq0 hbw hzw hW0 hb0 Nq YF
 refine aK (S:=fun X=>Below W0.heap.size W0 X) (by kernel_rfl) HB0.out fun ag=>?_
 obtain ⟨V,hV⟩:∃ V,W0.drew=V:=⟨_,rfl⟩;rw [hV] at HB0 ag ⊢;clear hV;have HQ0:=HQ.out;refine OP.m 0 rfl (.string s) ag ?_;simp only [OP.s];refine OP.t 2 rfl (.agg #[.int .i64 (-1),.string ⟨#[]⟩,.int .i64 z,.int .i64 z]) (fun X hX=>by have q0:=(HQ0 X hX).1;have q1:=(HQ0 X hX).2.1;have q2:=(HQ0 X hX).2.2.1;have q3:=(HQ0 X hX).2.2.2;go_simp) ag ?_;simp only [OP.s];clear HQ0;refine OP.l [1,3,5] ?_
 refine (OP.c rfl (fun K hK=>?_) (OP.c rfl (fun K hK=>?_) (OP.c rfl (fun K hK=>?_) AllReadyH.nil)))
 ·refine OP.w ?_
  go_simp
  go_at_call 48
  refine (HC.out _ HB0.out).mono ?_;rintro e X1 ⟨v1,rfl,w1,k1⟩;have hb1:=HB0.out.trans (k1.mono HB0.out.size);dsimp only
  refine hK.out _ _ hb1 fun ag=>?_
  try simp only [OP.s]
  clear hK K
  refine OP.q 3 5 rfl rfl (fun K hK=>?_) fun K hK=>?_
  ·refine OP.w ?_
   go_simp
   obtain ⟨g3,hg2⟩:∃ g,X1.heap.size=g:=⟨_,rfl⟩;obtain ⟨X2,hX2⟩:∃ Y,X1.alloc (.cells #[.int .i64 (-1),.string ⟨#[]⟩,.int .i64 z,.int .i64 z] 86)=Y:=⟨_,rfl⟩
   have YG:X2.heap[g3]?=some (.cells #[.int .i64 (-1),.string ⟨#[]⟩,.int .i64 z,.int .i64 z] 86 (0,0)):=by rw [← hX2,← hg2];exact fI _ _
   have k2:Below X1.heap.size X1 X2:=by rw [← hX2];exact (ah _ _).alloc (ae _) _
   have hb2:=hb1.trans (k2.mono hb1.size);have YH:=aR w1 k2;rw [hg2,hX2];clear hg2 hX2 k2
   refine hK.out _ _ hb2 fun ag=>?_
   try simp only [OP.s]
   clear hK K
   refine OP.q 4 5 rfl rfl (fun K hK=>?_) fun K hK=>?_
   ·refine OP.w ?_
    refine dI _ (.tmp 10) (.tmp 12) 79 rfl W0.heap.size 86 iT (.agg #[.int .i64 0,.string ⟨#[]⟩,.int .i64 0,.int .i64 0]) 4 40 Tryz.underlying79 hi0 hz0 hz1 hz2 rfl (by decide) v1 n (fV L) rfl YH ⟨g3,0,none⟩ 1 1 (qM (tq z)) rfl rfl (dn (cs:=#[.int .i64 (-1),.string ⟨#[]⟩,.int .i64 z,.int .i64 z]) YG) (qj _) (by decide) (by unfold maxLen;omega) (by omega) hb2.size _ rfl ?_;intro g4 c4 X3 w3 aN hat hlt;have hb3:=below_grown hb2 YH aN
    refine hK.out _ _ hb3 fun ag=>?_
    try simp only [OP.s]
    clear hK K
    refine OP.r 5 rfl fun K hK=>?_
    go_simp
    have o4:=pG X3;obtain ⟨g5,hg4⟩:∃ g,X3.heap.size=g:=⟨_,rfl⟩;obtain ⟨X4,hX4⟩:∃ Y,X3.alloc (.cells #[.string ⟨#[]⟩,.string ⟨#[]⟩,.int .i64 0,.int .i64 0,.slice none 0 0,.int .i64 0] 128)=Y:=⟨_,rfl⟩
    have k4:Below X3.heap.size X3 X4:=by rw [← hX4];exact (ah _ _).alloc (ae _) _
    have hb4:=hb3.trans (k4.mono hb3.size)
    have afc:X4.ownsRow W0.heap.size 128 6 (.slice (some ⟨g5,0,none⟩) 1 1) 1 wz:=by rw [← hX4,← hg4];exact jm o4 hb3.size
    have afd:=aR w3 k4;rw [hg4,hX4];clear hg4 hX4 k4 o4
    refine hK.out _ _ hb4 fun ag=>?_
    try simp only [OP.s]
    clear hK K;obtain ⟨O,hM,hbe,hO⟩:=HE.out X4 g4 c4 g5 hb4 afd afc;refine OP.t 6 rfl (.agg #[.slice (some ⟨g4,0,none⟩) (n+1) c4,.int .i64 0,.slice none 0 0,.slice (some ⟨g5,0,none⟩) 1 1]) (fun X hX=>by kernel_rfl) ag ?_;simp only [OP.s]
    refine OP.r 7 rfl fun K hK=>?_
    go_simp
    refine hK.out _ _ (hb4.alloc hb4.size _) fun ag=>?_
    try simp only [OP.s]
    clear hK K;refine OP.m 8 rfl (ptr X4.heap.size) ag ?_;simp only [OP.s];refine bz (by kernel_rfl) ?_ _;generalize X4.alloc (.cells #[.slice (some ⟨g4,0,none⟩) (n+1) c4,.int .i64 0,.slice none 0 0,.slice (some ⟨g5,0,none⟩) 1 1] 123)=Z at hM hbe ⊢;generalize X4.heap.size=d at hM ⊢;clear ag
    go_wp2_with fail
    go_ret
    exact ⟨_,_,O,rfl,hM,hbe,hO⟩
   ·refine OP.w ?_
    go_simp
    have o5:=pG X2;obtain ⟨g5,hg5⟩:∃ g,X2.heap.size=g:=⟨_,rfl⟩;obtain ⟨X5,Xb⟩:∃ Y,X2.alloc (.cells #[.string ⟨#[]⟩,.string ⟨#[]⟩,.int .i64 0,.int .i64 0,.slice none 0 0,.int .i64 0] 128)=Y:=⟨_,rfl⟩
    have k5:Below X2.heap.size X2 X5:=by rw [← Xb];exact (ah _ _).alloc (ae _) _
    have hb5:=hb2.trans (k5.mono hb2.size)
    have afe:X5.ownsRow W0.heap.size 128 6 (.slice (some ⟨g5,0,none⟩) 1 1) 1 wz:=by rw [← Xb,← hg5];exact jm o5 hb2.size
    have YI:=aR YH k5;have aff:=(k5.block _ (lt3 YG)).trans YG;rw [hg5,Xb];clear hg5 Xb k5 o5
    refine hK.out _ _ hb5 fun ag=>?_
    try simp only [OP.s]
    clear hK K
    refine OP.r 4 rfl fun K hK=>?_
    refine dI _ (.tmp 10) (.tmp 12) 79 rfl W0.heap.size 86 iT (.agg #[.int .i64 0,.string ⟨#[]⟩,.int .i64 0,.int .i64 0]) 4 40 Tryz.underlying79 hi0 hz0 hz1 hz2 rfl (by decide) v1 n (fV L) rfl YI ⟨g3,0,none⟩ 1 1 (qM (tq z)) rfl rfl (dn (cs:=#[.int .i64 (-1),.string ⟨#[]⟩,.int .i64 z,.int .i64 z]) aff) (qj _) (by decide) (by unfold maxLen;omega) (by omega) hb5.size _ rfl ?_;intro g4 c4 X6 w6 aN hat hlt;have hb6:=below_grown hb5 YI aN;have afg:=pF afe YI (by decide) aN
    refine hK.out _ _ hb6 fun ag=>?_
    try simp only [OP.s]
    clear hK K;obtain ⟨O,hM,hbe,hO⟩:=HE.out X6 g4 c4 g5 hb6 w6 afg;refine OP.t 6 rfl (.agg #[.slice (some ⟨g4,0,none⟩) (n+1) c4,.int .i64 0,.slice none 0 0,.slice (some ⟨g5,0,none⟩) 1 1]) (fun X hX=>by kernel_rfl) ag ?_;simp only [OP.s]
    refine OP.r 7 rfl fun K hK=>?_
    go_simp
    refine hK.out _ _ (hb6.alloc hb6.size _) fun ag=>?_
    try simp only [OP.s]
    clear hK K;refine OP.m 8 rfl (ptr X6.heap.size) ag ?_;simp only [OP.s];refine bz (by kernel_rfl) ?_ _;generalize X6.alloc (.cells #[.slice (some ⟨g4,0,none⟩) (n+1) c4,.int .i64 0,.slice none 0 0,.slice (some ⟨g5,0,none⟩) 1 1] 123)=Z at hM hbe ⊢;generalize X6.heap.size=d at hM ⊢;clear ag
    go_wp2_with fail
    go_ret
    exact ⟨_,_,O,rfl,hM,hbe,hO⟩
  ·refine OP.w ?_
   go_simp
   have o7:=pG X1;obtain ⟨g5,hg7⟩:∃ g,X1.heap.size=g:=⟨_,rfl⟩;obtain ⟨X7,hX7⟩:∃ Y,X1.alloc (.cells #[.string ⟨#[]⟩,.string ⟨#[]⟩,.int .i64 0,.int .i64 0,.slice none 0 0,.int .i64 0] 128)=Y:=⟨_,rfl⟩
   have k7:Below X1.heap.size X1 X7:=by rw [← hX7];exact (ah _ _).alloc (ae _) _
   have rW:=hb1.trans (k7.mono hb1.size)
   have afi:X7.ownsRow W0.heap.size 128 6 (.slice (some ⟨g5,0,none⟩) 1 1) 1 wz:=by rw [← hX7,← hg7];exact jm o7 hb1.size
   have afj:=aR w1 k7;rw [hg7,hX7];clear hg7 hX7 k7 o7
   refine hK.out _ _ rW fun ag=>?_
   try simp only [OP.s]
   clear hK K
   refine OP.r 3 rfl fun K hK=>?_
   go_simp
   obtain ⟨g3,hg8⟩:∃ g,X7.heap.size=g:=⟨_,rfl⟩;obtain ⟨X8,hX8⟩:∃ Y,X7.alloc (.cells #[.int .i64 (-1),.string ⟨#[]⟩,.int .i64 z,.int .i64 z] 86)=Y:=⟨_,rfl⟩
   have afl:X8.heap[g3]?=some (.cells #[.int .i64 (-1),.string ⟨#[]⟩,.int .i64 z,.int .i64 z] 86 (0,0)):=by rw [← hX8,← hg8];exact fI _ _
   have k8:Below X7.heap.size X7 X8:=by rw [← hX8];exact (ah _ _).alloc (ae _) _
   have qO:=rW.trans (k8.mono rW.size);have YJ:=aR afj k8;have afm:=aR afi k8;rw [hg8,hX8];clear hg8 hX8 k8
   refine hK.out _ _ qO fun ag=>?_
   try simp only [OP.s]
   clear hK K
   refine OP.r 4 rfl fun K hK=>?_
   refine dI _ (.tmp 10) (.tmp 12) 79 rfl W0.heap.size 86 iT (.agg #[.int .i64 0,.string ⟨#[]⟩,.int .i64 0,.int .i64 0]) 4 40 Tryz.underlying79 hi0 hz0 hz1 hz2 rfl (by decide) v1 n (fV L) rfl YJ ⟨g3,0,none⟩ 1 1 (qM (tq z)) rfl rfl (dn (cs:=#[.int .i64 (-1),.string ⟨#[]⟩,.int .i64 z,.int .i64 z]) afl) (qj _) (by decide) (by unfold maxLen;omega) (by omega) qO.size _ rfl ?_;intro g4 c4 X9 w9 aN hat hlt;have oP:=below_grown qO YJ aN;have afn:=pF afm YJ (by decide) aN
   refine hK.out _ _ oP fun ag=>?_
   try simp only [OP.s]
   clear hK K;obtain ⟨O,hM,hbe,hO⟩:=HE.out X9 g4 c4 g5 oP w9 afn;refine OP.t 6 rfl (.agg #[.slice (some ⟨g4,0,none⟩) (n+1) c4,.int .i64 0,.slice none 0 0,.slice (some ⟨g5,0,none⟩) 1 1]) (fun X hX=>by kernel_rfl) ag ?_;simp only [OP.s]
   refine OP.r 7 rfl fun K hK=>?_
   go_simp
   refine hK.out _ _ (oP.alloc oP.size _) fun ag=>?_
   try simp only [OP.s]
   clear hK K;refine OP.m 8 rfl (ptr X9.heap.size) ag ?_;simp only [OP.s];refine bz (by kernel_rfl) ?_ _;generalize X9.alloc (.cells #[.slice (some ⟨g4,0,none⟩) (n+1) c4,.int .i64 0,.slice none 0 0,.slice (some ⟨g5,0,none⟩) 1 1] 123)=Z at hM hbe ⊢;generalize X9.heap.size=d at hM ⊢;clear ag
   go_wp2_with fail
   go_ret
   exact ⟨_,_,O,rfl,hM,hbe,hO⟩
 ·refine OP.w ?_
  go_simp
  obtain ⟨g3,Ap⟩:∃ g,V.heap.size=g:=⟨_,rfl⟩;obtain ⟨YK,Vi⟩:∃ Y,V.alloc (.cells #[.int .i64 (-1),.string ⟨#[]⟩,.int .i64 z,.int .i64 z] 86)=Y:=⟨_,rfl⟩
  have Nr:YK.heap[g3]?=some (.cells #[.int .i64 (-1),.string ⟨#[]⟩,.int .i64 z,.int .i64 z] 86 (0,0)):=by rw [← Vi,← Ap];exact fI _ _
  have k10:Below V.heap.size V YK:=by rw [← Vi];exact (ah _ _).alloc (ae _) _
  have rO:=HB0.out.trans (k10.mono HB0.out.size);rw [Ap,Vi];clear Ap Vi k10
  refine hK.out _ _ rO fun ag=>?_
  try simp only [OP.s]
  clear hK K
  refine OP.q 1 5 rfl rfl (fun K hK=>?_) fun K hK=>?_
  ·refine OP.w ?_
   go_simp
   go_at_call 48
   refine (HC.out _ rO).mono ?_;rintro e X11 ⟨v1,rfl,Bn,k11⟩;have wh:=rO.trans (k11.mono rO.size);have Ss:=(k11.block _ (lt3 Nr)).trans Nr;dsimp only
   refine hK.out _ _ wh fun ag=>?_
   try simp only [OP.s]
   clear hK K
   refine OP.q 4 5 rfl rfl (fun K hK=>?_) fun K hK=>?_
   ·refine OP.w ?_
    refine dI _ (.tmp 10) (.tmp 12) 79 rfl W0.heap.size 86 iT (.agg #[.int .i64 0,.string ⟨#[]⟩,.int .i64 0,.int .i64 0]) 4 40 Tryz.underlying79 hi0 hz0 hz1 hz2 rfl (by decide) v1 n (fV L) rfl Bn ⟨g3,0,none⟩ 1 1 (qM (tq z)) rfl rfl (dn (cs:=#[.int .i64 (-1),.string ⟨#[]⟩,.int .i64 z,.int .i64 z]) Ss) (qj _) (by decide) (by unfold maxLen;omega) (by omega) wh.size _ rfl ?_;intro g4 c4 X12 w12 aN hat hlt;have BK:=below_grown wh Bn aN
    refine hK.out _ _ BK fun ag=>?_
    try simp only [OP.s]
    clear hK K
    refine OP.r 5 rfl fun K hK=>?_
    go_simp
    have o13:=pG X12;obtain ⟨g5,YL⟩:∃ g,X12.heap.size=g:=⟨_,rfl⟩;obtain ⟨X13,Vj⟩:∃ Y,X12.alloc (.cells #[.string ⟨#[]⟩,.string ⟨#[]⟩,.int .i64 0,.int .i64 0,.slice none 0 0,.int .i64 0] 128)=Y:=⟨_,rfl⟩
    have k13:Below X12.heap.size X12 X13:=by rw [← Vj];exact (ah _ _).alloc (ae _) _
    have Vk:=BK.trans (k13.mono BK.size)
    have abq:X13.ownsRow W0.heap.size 128 6 (.slice (some ⟨g5,0,none⟩) 1 1) 1 wz:=by rw [← Vj,← YL];exact jm o13 BK.size
    have abr:=aR w12 k13;rw [YL,Vj];clear YL Vj k13 o13
    refine hK.out _ _ Vk fun ag=>?_
    try simp only [OP.s]
    clear hK K;obtain ⟨O,hM,hbe,hO⟩:=HE.out X13 g4 c4 g5 Vk abr abq;refine OP.t 6 rfl (.agg #[.slice (some ⟨g4,0,none⟩) (n+1) c4,.int .i64 0,.slice none 0 0,.slice (some ⟨g5,0,none⟩) 1 1]) (fun X hX=>by kernel_rfl) ag ?_;simp only [OP.s]
    refine OP.r 7 rfl fun K hK=>?_
    go_simp
    refine hK.out _ _ (Vk.alloc Vk.size _) fun ag=>?_
    try simp only [OP.s]
    clear hK K;refine OP.m 8 rfl (ptr X13.heap.size) ag ?_;simp only [OP.s];refine bz (by kernel_rfl) ?_ _;generalize X13.alloc (.cells #[.slice (some ⟨g4,0,none⟩) (n+1) c4,.int .i64 0,.slice none 0 0,.slice (some ⟨g5,0,none⟩) 1 1] 123)=Z at hM hbe ⊢;generalize X13.heap.size=d at hM ⊢;clear ag
    go_wp2_with fail
    go_ret
    exact ⟨_,_,O,rfl,hM,hbe,hO⟩
   ·refine OP.w ?_
    go_simp
    have o14:=pG X11;obtain ⟨g5,YM⟩:∃ g,X11.heap.size=g:=⟨_,rfl⟩;obtain ⟨X14,Vl⟩:∃ Y,X11.alloc (.cells #[.string ⟨#[]⟩,.string ⟨#[]⟩,.int .i64 0,.int .i64 0,.slice none 0 0,.int .i64 0] 128)=Y:=⟨_,rfl⟩
    have k14:Below X11.heap.size X11 X14:=by rw [← Vl];exact (ah _ _).alloc (ae _) _
    have YN:=wh.trans (k14.mono wh.size)
    have abt:X14.ownsRow W0.heap.size 128 6 (.slice (some ⟨g5,0,none⟩) 1 1) 1 wz:=by rw [← Vl,← YM];exact jm o14 wh.size
    have Su:=aR Bn k14;have abu:=(k14.block _ (lt3 Ss)).trans Ss;rw [YM,Vl];clear YM Vl k14 o14
    refine hK.out _ _ YN fun ag=>?_
    try simp only [OP.s]
    clear hK K
    refine OP.r 4 rfl fun K hK=>?_
    refine dI _ (.tmp 10) (.tmp 12) 79 rfl W0.heap.size 86 iT (.agg #[.int .i64 0,.string ⟨#[]⟩,.int .i64 0,.int .i64 0]) 4 40 Tryz.underlying79 hi0 hz0 hz1 hz2 rfl (by decide) v1 n (fV L) rfl Su ⟨g3,0,none⟩ 1 1 (qM (tq z)) rfl rfl (dn (cs:=#[.int .i64 (-1),.string ⟨#[]⟩,.int .i64 z,.int .i64 z]) abu) (qj _) (by decide) (by unfold maxLen;omega) (by omega) YN.size _ rfl ?_;intro g4 c4 X15 w15 aN hat hlt;have Vm:=below_grown YN Su aN;have abv:=pF abt Su (by decide) aN
    refine hK.out _ _ Vm fun ag=>?_
    try simp only [OP.s]
    clear hK K;obtain ⟨O,hM,hbe,hO⟩:=HE.out X15 g4 c4 g5 Vm w15 abv;refine OP.t 6 rfl (.agg #[.slice (some ⟨g4,0,none⟩) (n+1) c4,.int .i64 0,.slice none 0 0,.slice (some ⟨g5,0,none⟩) 1 1]) (fun X hX=>by kernel_rfl) ag ?_;simp only [OP.s]
    refine OP.r 7 rfl fun K hK=>?_
    go_simp
    refine hK.out _ _ (Vm.alloc Vm.size _) fun ag=>?_
    try simp only [OP.s]
    clear hK K;refine OP.m 8 rfl (ptr X15.heap.size) ag ?_;simp only [OP.s];refine bz (by kernel_rfl) ?_ _;generalize X15.alloc (.cells #[.slice (some ⟨g4,0,none⟩) (n+1) c4,.int .i64 0,.slice none 0 0,.slice (some ⟨g5,0,none⟩) 1 1] 123)=Z at hM hbe ⊢;generalize X15.heap.size=d at hM ⊢;clear ag
    go_wp2_with fail
    go_ret
    exact ⟨_,_,O,rfl,hM,hbe,hO⟩
  ·refine OP.w ?_
   go_simp
   have o16:=pG YK;obtain ⟨g5,YO⟩:∃ g,YK.heap.size=g:=⟨_,rfl⟩;obtain ⟨X16,Vn⟩:∃ Y,YK.alloc (.cells #[.string ⟨#[]⟩,.string ⟨#[]⟩,.int .i64 0,.int .i64 0,.slice none 0 0,.int .i64 0] 128)=Y:=⟨_,rfl⟩
   have k16:Below YK.heap.size YK X16:=by rw [← Vn];exact (ah _ _).alloc (ae _) _
   have Vo:=rO.trans (k16.mono rO.size)
   have abw:X16.ownsRow W0.heap.size 128 6 (.slice (some ⟨g5,0,none⟩) 1 1) 1 wz:=by rw [← Vn,← YO];exact jm o16 rO.size
   have Xc:=(k16.block _ (lt3 Nr)).trans Nr;rw [YO,Vn];clear YO Vn k16 o16
   refine hK.out _ _ Vo fun ag=>?_
   try simp only [OP.s]
   clear hK K
   refine OP.r 1 rfl fun K hK=>?_
   go_simp
   go_at_call 48
   refine (HC.out _ Vo).mono ?_;rintro e X17 ⟨v1,rfl,w17,k17⟩;have YP:=Vo.trans (k17.mono Vo.size);have abx:=(k17.block _ (lt3 Xc)).trans Xc;have aby:=aR abw k17;dsimp only
   refine hK.out _ _ YP fun ag=>?_
   try simp only [OP.s]
   clear hK K
   refine OP.r 4 rfl fun K hK=>?_
   refine dI _ (.tmp 10) (.tmp 12) 79 rfl W0.heap.size 86 iT (.agg #[.int .i64 0,.string ⟨#[]⟩,.int .i64 0,.int .i64 0]) 4 40 Tryz.underlying79 hi0 hz0 hz1 hz2 rfl (by decide) v1 n (fV L) rfl w17 ⟨g3,0,none⟩ 1 1 (qM (tq z)) rfl rfl (dn (cs:=#[.int .i64 (-1),.string ⟨#[]⟩,.int .i64 z,.int .i64 z]) abx) (qj _) (by decide) (by unfold maxLen;omega) (by omega) YP.size _ rfl ?_;intro g4 c4 X18 w18 aN hat hlt;have Vp:=below_grown YP w17 aN;have abz:=pF aby w17 (by decide) aN
   refine hK.out _ _ Vp fun ag=>?_
   try simp only [OP.s]
   clear hK K;obtain ⟨O,hM,hbe,hO⟩:=HE.out X18 g4 c4 g5 Vp w18 abz;refine OP.t 6 rfl (.agg #[.slice (some ⟨g4,0,none⟩) (n+1) c4,.int .i64 0,.slice none 0 0,.slice (some ⟨g5,0,none⟩) 1 1]) (fun X hX=>by kernel_rfl) ag ?_;simp only [OP.s]
   refine OP.r 7 rfl fun K hK=>?_
   go_simp
   refine hK.out _ _ (Vp.alloc Vp.size _) fun ag=>?_
   try simp only [OP.s]
   clear hK K;refine OP.m 8 rfl (ptr X18.heap.size) ag ?_;simp only [OP.s];refine bz (by kernel_rfl) ?_ _;generalize X18.alloc (.cells #[.slice (some ⟨g4,0,none⟩) (n+1) c4,.int .i64 0,.slice none 0 0,.slice (some ⟨g5,0,none⟩) 1 1] 123)=Z at hM hbe ⊢;generalize X18.heap.size=d at hM ⊢;clear ag
   go_wp2_with fail
   go_ret
   exact ⟨_,_,O,rfl,hM,hbe,hO⟩
 ·refine OP.w ?_
  go_simp
  have o19:=pG V;obtain ⟨g5,YQ⟩:∃ g,V.heap.size=g:=⟨_,rfl⟩;obtain ⟨X19,Vq⟩:∃ Y,V.alloc (.cells #[.string ⟨#[]⟩,.string ⟨#[]⟩,.int .i64 0,.int .i64 0,.slice none 0 0,.int .i64 0] 128)=Y:=⟨_,rfl⟩
  have k19:Below V.heap.size V X19:=by rw [← Vq];exact (ah _ _).alloc (ae _) _
  have OW:=HB0.out.trans (k19.mono HB0.out.size)
  have Xd:X19.ownsRow W0.heap.size 128 6 (.slice (some ⟨g5,0,none⟩) 1 1) 1 wz:=by rw [← Vq,← YQ];exact jm o19 HB0.out.size
  rw [YQ,Vq];clear YQ Vq k19 o19
  refine hK.out _ _ OW fun ag=>?_
  try simp only [OP.s]
  clear hK K
  refine OP.q 1 3 rfl rfl (fun K hK=>?_) fun K hK=>?_
  ·refine OP.w ?_
   go_simp
   go_at_call 48
   refine (HC.out _ OW).mono ?_;rintro e X20 ⟨v1,rfl,w20,k20⟩;have YR:=OW.trans (k20.mono OW.size);have abA:=aR Xd k20;dsimp only
   refine hK.out _ _ YR fun ag=>?_
   try simp only [OP.s]
   clear hK K
   refine OP.r 3 rfl fun K hK=>?_
   go_simp
   obtain ⟨g3,YS⟩:∃ g,X20.heap.size=g:=⟨_,rfl⟩;obtain ⟨X21,Vr⟩:∃ Y,X20.alloc (.cells #[.int .i64 (-1),.string ⟨#[]⟩,.int .i64 z,.int .i64 z] 86)=Y:=⟨_,rfl⟩
   have abB:X21.heap[g3]?=some (.cells #[.int .i64 (-1),.string ⟨#[]⟩,.int .i64 z,.int .i64 z] 86 (0,0)):=by rw [← Vr,← YS];exact fI _ _
   have k21:Below X20.heap.size X20 X21:=by rw [← Vr];exact (ah _ _).alloc (ae _) _
   have C4:=YR.trans (k21.mono YR.size);have Sv:=aR w20 k21;have abC:=aR abA k21;rw [YS,Vr];clear YS Vr k21
   refine hK.out _ _ C4 fun ag=>?_
   try simp only [OP.s]
   clear hK K
   refine OP.r 4 rfl fun K hK=>?_
   refine dI _ (.tmp 10) (.tmp 12) 79 rfl W0.heap.size 86 iT (.agg #[.int .i64 0,.string ⟨#[]⟩,.int .i64 0,.int .i64 0]) 4 40 Tryz.underlying79 hi0 hz0 hz1 hz2 rfl (by decide) v1 n (fV L) rfl Sv ⟨g3,0,none⟩ 1 1 (qM (tq z)) rfl rfl (dn (cs:=#[.int .i64 (-1),.string ⟨#[]⟩,.int .i64 z,.int .i64 z]) abB) (qj _) (by decide) (by unfold maxLen;omega) (by omega) C4.size _ rfl ?_;intro g4 c4 X22 w22 aN hat hlt;have Aa:=below_grown C4 Sv aN;have abD:=pF abC Sv (by decide) aN
   refine hK.out _ _ Aa fun ag=>?_
   try simp only [OP.s]
   clear hK K;obtain ⟨O,hM,hbe,hO⟩:=HE.out X22 g4 c4 g5 Aa w22 abD;refine OP.t 6 rfl (.agg #[.slice (some ⟨g4,0,none⟩) (n+1) c4,.int .i64 0,.slice none 0 0,.slice (some ⟨g5,0,none⟩) 1 1]) (fun X hX=>by kernel_rfl) ag ?_;simp only [OP.s]
   refine OP.r 7 rfl fun K hK=>?_
   go_simp
   refine hK.out _ _ (Aa.alloc Aa.size _) fun ag=>?_
   try simp only [OP.s]
   clear hK K;refine OP.m 8 rfl (ptr X22.heap.size) ag ?_;simp only [OP.s];refine bz (by kernel_rfl) ?_ _;generalize X22.alloc (.cells #[.slice (some ⟨g4,0,none⟩) (n+1) c4,.int .i64 0,.slice none 0 0,.slice (some ⟨g5,0,none⟩) 1 1] 123)=Z at hM hbe ⊢;generalize X22.heap.size=d at hM ⊢;clear ag
   go_wp2_with fail
   go_ret
   exact ⟨_,_,O,rfl,hM,hbe,hO⟩
  ·refine OP.w ?_
   go_simp
   obtain ⟨g3,YT⟩:∃ g,X19.heap.size=g:=⟨_,rfl⟩;obtain ⟨X23,Vs⟩:∃ Y,X19.alloc (.cells #[.int .i64 (-1),.string ⟨#[]⟩,.int .i64 z,.int .i64 z] 86)=Y:=⟨_,rfl⟩
   have Xe:X23.heap[g3]?=some (.cells #[.int .i64 (-1),.string ⟨#[]⟩,.int .i64 z,.int .i64 z] 86 (0,0)):=by rw [← Vs,← YT];exact fI _ _
   have k23:Below X19.heap.size X19 X23:=by rw [← Vs];exact (ah _ _).alloc (ae _) _
   have Vt:=OW.trans (k23.mono OW.size);have abE:=aR Xd k23;rw [YT,Vs];clear YT Vs k23
   refine hK.out _ _ Vt fun ag=>?_
   try simp only [OP.s]
   clear hK K
   refine OP.r 1 rfl fun K hK=>?_
   go_simp
   go_at_call 48
   refine (HC.out _ Vt).mono ?_;rintro e X24 ⟨v1,rfl,w24,k24⟩;have YU:=Vt.trans (k24.mono Vt.size);have abF:=(k24.block _ (lt3 Xe)).trans Xe;have abG:=aR abE k24;dsimp only
   refine hK.out _ _ YU fun ag=>?_
   try simp only [OP.s]
   clear hK K
   refine OP.r 4 rfl fun K hK=>?_
   refine dI _ (.tmp 10) (.tmp 12) 79 rfl W0.heap.size 86 iT (.agg #[.int .i64 0,.string ⟨#[]⟩,.int .i64 0,.int .i64 0]) 4 40 Tryz.underlying79 hi0 hz0 hz1 hz2 rfl (by decide) v1 n (fV L) rfl w24 ⟨g3,0,none⟩ 1 1 (qM (tq z)) rfl rfl (dn (cs:=#[.int .i64 (-1),.string ⟨#[]⟩,.int .i64 z,.int .i64 z]) abF) (qj _) (by decide) (by unfold maxLen;omega) (by omega) YU.size _ rfl ?_;intro g4 c4 X25 w25 aN hat hlt;have Vu:=below_grown YU w24 aN;have abH:=pF abG w24 (by decide) aN
   refine hK.out _ _ Vu fun ag=>?_
   try simp only [OP.s]
   clear hK K;obtain ⟨O,hM,hbe,hO⟩:=HE.out X25 g4 c4 g5 Vu w25 abH;refine OP.t 6 rfl (.agg #[.slice (some ⟨g4,0,none⟩) (n+1) c4,.int .i64 0,.slice none 0 0,.slice (some ⟨g5,0,none⟩) 1 1]) (fun X hX=>by kernel_rfl) ag ?_;simp only [OP.s]
   refine OP.r 7 rfl fun K hK=>?_
   go_simp
   refine hK.out _ _ (Vu.alloc Vu.size _) fun ag=>?_
   try simp only [OP.s]
   clear hK K;refine OP.m 8 rfl (ptr X25.heap.size) ag ?_;simp only [OP.s];refine bz (by kernel_rfl) ?_ _;generalize X25.alloc (.cells #[.slice (some ⟨g4,0,none⟩) (n+1) c4,.int .i64 0,.slice none 0 0,.slice (some ⟨g5,0,none⟩) 1 1] 123)=Z at hM hbe ⊢;generalize X25.heap.size=d at hM ⊢;clear ag
   go_wp2_with fail
   go_ret
   exact ⟨_,_,O,rfl,hM,hbe,hO⟩
end K
namespace J
open Go.RowKit
open Go.Lib hiding intOf
open U S T
theorem Pt.ind {C:Pt→Prop} (h:∀ k t f e ks,(∀ p∈ks,C p)→C (.mk k t f e ks)):∀ p,C p
 | .mk k t f e ks=>h k t f e ks (go ks)
where
 go:∀ (l:List Pt),∀ p∈l,C p
  | [],p,hp=>absurd hp (ed)
  | x :: r,p,hp=>by
   rcases bB.1 hp with h1|h1
   ·rw [h1];exact Pt.ind h x
   ·exact go r p h1
def arg (p:Pt) (lv:Value):Value:=.agg (five p lv).toArray
mutual
def sM:Pt→Nat
 | .mk k t _ _ ks=>1+t.length+k.length+oN ks
def oN:List Pt→Nat
 | []=>0
 | p :: r=>sM p+oN r
end
theorem Ns (p:Pt):1≤sM p:=by cases p;rw [sM];omega
theorem lU:∀ l:List Pt,l.length≤oN l
 | []=>by simp
 | p :: r=>by have:=lU r;have:=Ns p;rw [oN,aH];omega
theorem xk:∀ {l:List Pt} {p:Pt},p∈l→sM p≤oN l
 | x :: r,p,h=>by
  rw [oN]
  rcases bB.1 h with rfl|h
  ·omega
  ·have:=xk h;omega
theorem Ci:∀ (a b:List Pt),oN (a++b)=oN a+oN b
 | [],b=>by simp [oN]
 | x :: r,b=>by rw [bI,oN,oN,Ci r b];omega
theorem dE {W W':World} {R:Nat→Prop} {p:Pt} {lv:Value} (h:aU W R p lv) (hb:Below W.heap.size W W'):aU W' R p lv:=aU.later (fun g _ hlt=>hb.block g hlt) (fun _ h=>h) p lv h
theorem sD {W W':World} {R:Nat→Prop} {l:List Pt} {xs:List Value} (h:aP W R l xs) (hb:Below W.heap.size W W'):aP W' R l xs:=aP.later (fun g _ hlt=>hb.block g hlt) (fun _ h=>h) l xs h
theorem eD {W:World} {R:Nat→Prop} {k t:By} {f e:Int} {ks:List Pt} {lv:Value} (h:aU W R (.mk k t f e ks) lv):∃ a c,lv=.slice a ks.length c:=by
 obtain ⟨a,c,rfl,_,_⟩:=h
 exact ⟨a,c,rfl⟩
theorem mZ {W:World} {R:Nat→Prop} {k t:By} {f e:Int} {ks:List Pt} {a:Option Addr} {n c:Nat} (h:aU W R (.mk k t f e ks) (.slice a n c)):n=ks.length∧ks.length≤c∧(ks=[]∨∃ g off xs,a=some ⟨g,off,none⟩∧R g∧dJ W g off xs∧aP W R ks xs):=by
 obtain ⟨a',c',h1,h0,h2⟩:=h
 cases h1
 exact ⟨rfl,h0,h2⟩
theorem xm {W:World} {R:Nat→Prop}:∀ {l:List Pt} {xs:List Value} (i:Nat) (hi:i<l.length),aP W R l xs→∃ lv,aU W R l[i] lv∧∀ j u,(five l[i] lv)[j]?=some u→xs[i*5+j]?=some u
 | [],_,i,hi,_=>absurd hi (aS _)
 | p :: r,xs,i,hi,h=>by
  obtain ⟨lv,rest,rfl,h2,h3⟩:=h;have h5:=eO p lv
  cases i with
  | zero =>
   refine ⟨lv,h2,fun j u hj=>?_⟩;have hj:(five p lv)[j]?=some u:=hj;have hlt:=(aL.1 hj).1;rw [bu (by omega),Nat.zero_mul,bA];exact hj
  | succ i =>
   obtain ⟨CQ,h6,h7⟩:=xm i (by simpa using hi) h3;refine ⟨CQ,h6,fun j u hj=>?_⟩;rw [aI (by omega),h5,show (i+1)*5+j - 5=i*5+j by omega]
   exact h7 j u hj
structure Nt (W:World) (R:Nat→Prop) (p:Pt) (g o:Nat) (k t:By) (f e:Int) (ks:List Pt) (a:Option Addr) (c:Nat):Prop where
 eq:p=.mk k t f e ks
 kids:aU W R (.mk k t f e ks) (.slice a ks.length c)
 k0:W.cell? ⟨g,o,none⟩=some (.string (aX k))
 k1:W.cell? ⟨g,o+1,none⟩=some (.string (aX t))
 k2:W.cell? ⟨g,o+2,none⟩=some (.int .i64 f)
 k3:W.cell? ⟨g,o+3,none⟩=some (.int .i64 e)
 k4:W.cell? ⟨g,o+4,none⟩=some (.slice a ks.length c)
theorem Aq {W:World} {R:Nat→Prop} {l:List Pt} {xs:List Value} {g off:Nat} (hp:aP W R l xs) (hc:dJ W g off xs) (i:Nat) (hi:i<l.length):∃ k t f e ks a c,Nt W R l[i] g (off+i*5) k t f e ks a c:=by
 obtain ⟨lv,h1,h2⟩:=xm i hi hp;generalize l[i]=p at h1 h2;obtain ⟨k,t,f,e,ks⟩:=p;obtain ⟨a,c,rfl⟩:=eD h1
 have at':∀ j u,(five (.mk k t f e ks) (.slice a ks.length c))[j]?=some u→W.cell? ⟨g,off+i*5+j,none⟩=some u:=fun j u hj=>by
  have:=hc _ _ (h2 j u hj);rw [← Nat.add_assoc] at this
  exact this
 exact ⟨k,t,f,e,ks,a,c,rfl,h1,at' 0 _ rfl,at' 1 _ rfl,at' 2 _ rfl,at' 3 _ rfl,at' 4 _ rfl⟩
theorem Nt.below {W W':World} {R:Nat→Prop} {p:Pt} {g o:Nat} {k t:By} {f e:Int} {ks:List Pt} {a:Option Addr} {c:Nat} (h:Nt W R p g o k t f e ks a c) (hb:Below W.heap.size W W'):Nt W' R p g o k t f e ks a c :=
 have cl:∀ {o:Nat} {v:Value},W.cell? ⟨g,o,none⟩=some v→W'.cell? ⟨g,o,none⟩=some v:=fun h=>(hb.cell (aY W _ h)).trans h
 ⟨h.eq,dE h.kids hb,cl h.k0,cl h.k1,cl h.k2,cl h.k3,cl h.k4⟩
theorem bZ {W:World} {b:Nat} {v0 v1 v2 v3 v4:Value} {t:TypeId} (h:W.heap[b]?=some (.cells #[v0,v1,v2,v3,v4] t (0,0))) :
  (W.cell? ⟨b,0,none⟩=some v0∧W.cell? ⟨b,1,none⟩=some v1∧W.cell? ⟨b,2,none⟩=some v2∧W.cell? ⟨b,3,none⟩=some v3∧W.cell? ⟨b,4,none⟩=some v4)∧∀ j,W.frozen? ⟨b,j,none⟩=false :=
 ⟨⟨by simp [World.cell?,h],by simp [World.cell?,h],by simp [World.cell?,h],by simp [World.cell?,h],by simp [World.cell?,h]⟩,fun j=>by simp [World.frozen?,h]⟩
theorem fI (w:World) (o:Obj):(w.alloc o).heap[w.heap.size]?=some o:=aG w o
theorem gY (w:World) (o:Obj):∃ w1,w.alloc o=w1∧w1.heap[w.heap.size]?=some o∧Below w.heap.size w w1∧w.heap.size<w1.heap.size :=
 ⟨_,rfl,fI w o,(ah _ _).alloc (ae _) _,by simp⟩
end J
namespace K
open Go.Lib Go.Proofs.YtojoahlpgmnbnaaGreatDoor.U Go.Proofs.YtojoahlpgmnbnaaGreatDoor.S Go.Proofs.YtojoahlpgmnbnaaGreatDoor.T Go.Proofs.YtojoahlpgmnbnaaGreatDoor.J
def wO (o:Open):Nat:=1+o.k.length+o.t.length+oN o.kids
def lF:List Open→Nat
 | []=>0
 | o :: r=>wO o+lF r
section
variable {M:Nat} {i:Nat} {R l:List Stp} {O O':List Open} {s1:St}
theorem G7 (a:Open) (p:Pt) (f:Int):wO (a.add p f)=wO a+sM p:=by
 show 1+a.k.length+a.t.length+oN (a.kids++[p])=_
 rw [Ci,oN,oN];unfold wO;omega
theorem Sw {o:Open} {e:Int} {p:Pt} (h:o.close e=some p):sM p≤wO o:=by
 unfold Open.close at h
 split at h
 ·cases hk:o.kids with
  | nil=>rw [hk] at h;cases h
  | cons q r =>
   rw [hk] at h;cases h
   unfold wO;rw [hk,oN];omega
 ·split at h
  ·cases h;rw [sM];unfold wO;omega
  ·cases h;rw [sM];unfold wO;omega
theorem OX {e:Int} (h:sJ e O=some O'):lF O'≤lF O:=by
 match O,h with
 | o :: a :: r,h =>
  unfold sJ at h
  dsimp only at h
  cases hc:o.close e with
  | none=>rw [hc] at h;cases h
  | some p =>
   rw [hc] at h;cases h;have:=Sw hc;rw [lF,lF,lF,G7];omega
theorem FC {e s:Int}:∀ (r:List Open) (o:Open),settle e s o r=some O'→lF O'≤wO o+lF r
 | [],o,h=>by
  unfold settle at h
  split at h
  ·cases h
  ·cases h;rw [lF,lF];exact ae _
 | a :: r,o,h=>by
  unfold settle at h
  split at h
  ·have h1:=FC r _ h
   rw [G7,sM] at h1;rw [lF];unfold wO at h1 ⊢;omega
  ·cases h;rw [lF,lF];exact ae _
theorem Nu {k:By} (h:oQ k O=some O') (hk:k.length≤6):lF O'≤lF O+8:=by
 cases O with
 | nil=>cases h
 | cons a r =>
  unfold oQ at h
  dsimp only at h
  cases hc:a.kids.getLast? with
  | none=>rw [hc] at h;cases h
  | some p =>
   rw [hc] at h;cases h
   have hd:a.kids=a.kids.dropLast++[p]:=by
    obtain ⟨ys,hy⟩:=List.getLast?_eq_some_iff.1 hc;rw [hy];simp
   have hw:oN a.kids=oN a.kids.dropLast+sM p:=by
    have h2:=congrArg oN hd;rw [Ci,oN,oN] at h2
    omega
   rw [lF,lF,lF]
   unfold wO
   dsimp only;rw [hw,oN,oN];simp only [dQ]
   omega
theorem Vv {t:By} (h:ER t O=some O') (ht:t.length≤M):lF O'≤lF O+M:=by
 cases O with
 | nil=>cases h
 | cons o r=>cases h;rw [lF,lF];unfold wO;dsimp only;omega
theorem Vw {t:By} (h:ES t O=some O') (ht:t.length≤6):lF O'≤lF O+6:=by
 cases O with
 | nil=>cases h
 | cons o r=>cases h;rw [lF,lF];unfold wO;dsimp only;omega
theorem Dw {k j:Nat} {o:Option (List Open)} (hs:ow k l o=.go s1) (ho:∀ O',o=some O'→lF O'≤j):lF s1.opn≤j:=by
 cases o with
 | none=>cases hs
 | some O'=>cases hs;exact ho O' rfl
end
variable {L:List bn} {size M:Nat}
theorem Vx (hM:∀ i,(tok L size i).t.length≤M) {s s1:St} (hs:fA L size s=.go s1):lF s1.opn≤lF s.opn+(M+16):=by
 obtain ⟨i,todo,O⟩:=s
 cases todo with
 | nil=>cases hs
 | cons x R =>
  show lF s1.opn≤lF O+(M+16)
  have hop:∀ {kd:By} {l:List Stp},kd.length≤6→opened L size kd ⟨i,R,O⟩ l=.go s1→lF s1.opn≤lF O+(M+16):=fun hk h=>by
   cases h
   show lF (_ :: O)≤_
   rw [lF];unfold wO;dsimp only;rw [oN];simp only [dQ];omega
  have Jy:∀ {l:List Stp},uB ⟨i,R,O⟩ l=.go s1→lF s1.opn≤lF O+(M+16):=fun h=>by cases h;exact Nat.le_add_right _ _
  have hvar:varDecl L size ⟨i,R,O⟩=.go s1→lF s1.opn≤lF O+(M+16):=hop (by decide);have hif:zT L size ⟨i,R,O⟩=.go s1→lF s1.opn≤lF O+(M+16):=hop (by decide);have hbl:xQ L size ⟨i,R,O⟩=.go s1→lF s1.opn≤lF O+(M+16):=hop (by decide);have hex:ET ⟨i,R,O⟩=.go s1→lF s1.opn≤lF O+(M+16):=Jy
  have htx:∀ {l:List Stp} {k:Nat},ow k l (ER (tok L size i).t O)=.go s1→lF s1.opn≤lF O+(M+16):=fun h=>Dw h (fun O' hO=>by have:=Vv hO (hM i);omega)
  have hkd:∀ {t:By} {l:List Stp} {k:Nat},t.length≤6→ow k l (ES t O)=.go s1→lF s1.opn≤lF O+(M+16):=fun ht h=>Dw h (fun O' hO=>by have:=Vw hO ht;omega)
  have hwr:∀ {t:By} {l:List Stp},t.length≤6→ow i l (oQ t O)=.go s1→lF s1.opn≤lF O+(M+16):=fun ht h=>Dw h (fun O' hO=>by have:=Nu hO ht;omega)
  have hsame:∀ {k:Nat} {l:List Stp},(IV.go ⟨k,l,O⟩:IV)=.go s1→lF s1.opn≤lF O+(M+16):=fun h=>by cases h;exact Nat.le_add_right _ _
  change exec L size x ⟨i,R,O⟩=.go s1 at hs
  cases x with
  | word t=>simp only [exec] at hs;split at hs;exact hsame hs;cases hs
  | lines m=>simp only [exec] at hs;split at hs;exact hsame hs;exact hsame hs
  | more m=>simp only [exec] at hs;split at hs;exact Jy hs;exact hsame hs
  | jD m=>simp only [exec] at hs;split at hs;exact hsame hs;exact Jy hs
  | kJ m=>simp only [exec] at hs;split at hs;exact Jy hs;exact hsame hs
  | m k =>
   change bD L size k ⟨i,R,O⟩=.go s1 at hs
   cases k with
   | decl=>simp only [bD] at hs;(repeat' split at hs);exact hop (by decide) hs;exact hvar hs;exact hop (by decide) hs;cases hs
   | vL=>simp only [bD] at hs;exact hsame hs
   | nJ=>simp only [bD] at hs;split at hs;exact hsame hs;cases hs
   | name=>simp only [bD] at hs;split at hs;exact htx hs;cases hs
   | params=>exact hop (by decide) hs
   | result =>
    simp only [bD] at hs
    split at hs
    ·split at hs
     ·cases hs
     ·cases O with
      | nil=>cases hs;exact Nat.le_add_right _ _
      | cons a r =>
       cases hs
       show lF (_ :: r)≤lF (a :: r)+_
       rw [lF,lF,G7,sM,oN];have:fF.length=6:=rfl;simp only [dQ]
       omega
    ·exact hop (by decide) hs
   | block=>exact hbl hs
   | fin =>
    simp only [bD,BH] at hs
    split at hs
    ·cases hs
    ·exact Dw hs (fun O' hO=>by have:=OX hO;omega)
   | field=>exact hop (by decide) hs
   | param=>exact hop (by decide) hs
   | typeOf=>simp only [bD] at hs;(repeat' split at hs);all_goals exact hop (by decide) hs
   | stmt=>simp only [bD] at hs;(repeat' split at hs);exact hvar hs;exact hop (by decide) hs;exact hif hs;exact hop (by decide) hs;exact hbl hs;exact hop (by decide) hs
   | returned=>simp only [bD] at hs;split at hs;exact hex hs;exact hsame hs
   | expr=>exact hex hs
   | assigned=>simp only [bD] at hs;(repeat' split at hs);exact hkd (by decide) hs;exact hkd (by decide) hs;exact hsame hs
   | otherwise=>simp only [bD] at hs;split at hs;exact Jy hs;exact hsame hs
   | pre=>simp only [bD] at hs;split at hs;exact hop (by decide) hs;exact Jy hs
   | between =>
    simp only [bD,ru] at hs
    split at hs
    ·cases hs
    ·split at hs
     ·cases hs
     ·rename_i O2 h2
      have h4:lF O2≤lF O:=by
       cases O with
       | nil=>cases h2
       | cons o r=>exact FC r o h2
      split at hs
      ·exact Dw hs (fun O' hO=>by have:=Nu hO (by decide);omega)
      ·cases hs;exact aJ h4 (Nat.le_add_right _ _)
   | iV=>simp only [bD] at hs;split at hs;exact hif hs;exact hbl hs
   | text=>simp only [bD] at hs;split at hs;exact htx hs;cases hs
   | behind=>simp only [bD] at hs;(repeat' split at hs);exact hwr (by decide) hs;exact hwr (by decide) hs;exact hsame hs
   | operand=>simp only [bD] at hs;(repeat' split at hs);all_goals exact hop (by decide) hs
   | called =>
    simp only [bD] at hs
    split at hs
    ·cases O with
     | nil=>cases hs
     | cons o r =>
      have h1:p9.length=3:=rfl;have h2:jL.length=4:=rfl;have h3:mW.length=4:=rfl;dsimp only at hs
      repeat' split at hs
      all_goals
       cases hs
       show lF (_ :: r)≤lF (o :: r)+_
       rw [lF,lF];unfold wO;simp only [dQ];omega
    ·exact hsame hs
theorem Vy (hM:∀ i,(tok L size i).t.length≤M) {n:Nat} {s s1:St} (h:Goes L size n s s1):lF s1.opn≤lF s.opn+n*(M+16):=by
 induction h with
 | refl n s=>omega
 | step h1 _ ih =>
  have h2:=Vx hM h1;rw [Nat.add_mul,Nat.one_mul]
  omega
theorem Cj {right:Bool} {s:By} {p:Pt} (hs:s.length≤600) (h:pg (fD right s)=.part p):sM p≤100000000:=by
 have hr:=CF right s
 have hn:(fD right s).length≤s.length+1:=by
  have go:∀ (n:Nat) (l:By) (pos:Nat) (ended:Bool),(jJ right n l pos ended).length≤n:=by
   intro n
   induction n with
   | zero=>intro l pos ended;exact ae _
   | succ n ih =>
    intro l pos ended
    cases l with
    | nil=>simp only [jJ];split <;> simp
    | cons c r =>
     simp only [jJ]
     split
     ·simp only [aH];exact iq (ih _ _ _)
     ·split
      ·exact bO (ih _ _ _)
      ·split
       ·exact bO (ih _ _ _)
       ·simp only [aH];exact iq (ih _ _ _)
  exact go _ s 0 false
 have hM:∀ i,(tok (fD right s) s.length i).t.length≤600:=by
  intro i
  have tx:∀ {L:List bn} {a:Nat},yO s a L→∀ t∈L,t.t.length≤s.length:=by
   intro L
   induction L with
   | nil=>intro a _ t h;cases h
   | cons u r ih =>
    intro a h t ht
    cases h with
    | cons hk hl hr =>
     rcases bB.1 ht with rfl|ht
     ·rcases hk.text with ⟨_,h2,_⟩|⟨_,h2⟩
      ·rw [h2];exact aM _
      ·rw [h2,ib,bC];omega
     ·exact ih hr t ht
  unfold tok
  cases h1:(fD right s)[i]? with
  | none=>simp
  | some t =>
   have:=tx hr t (List.mem_of_getElem? h1)
   show t.t.length≤600
   omega
 have hc:=JB (size:=s.length) (Fh right s);rw [h] at hc;obtain ⟨i,f,hg⟩:=hc;have hw:=Vy hM hg
 have e1:lF [root.add p f]=1+sM p:=by
  rw [lF,lF,G7]
  show 1+0+0+oN []+sM p+0=_
  rw [oN];omega
 have e2:lF begun.opn=1:=by
  show lF [root]=1
  rw [lF,lF];show 1+0+0+oN []+0=1;rw [oN]
 rw [e2] at hw;have hw:lF [root.add p f]≤_:=hw;rw [e1] at hw;have hle:(100*(fD right s).length+100)*(600+16)≤60300*616:=Nat.mul_le_mul (by omega) (ae _)
 omega
end K
namespace J
open Go.RowKit
open Go.Lib hiding intOf
open U S T
theorem BL {P:Program} {w:World} (base:Nat) (t ty e:TypeId) (i:TypeInfo) (size:Nat) (ht:P.underlying t=some (.slice e)) (hi:P.info? e=some i)
  (v:Value) (n:Nat) (xs:List Value) (bP:w.ownsRow base e size v n xs) (a:Option Addr) (c:Nat) :
  (Builtin.append_ #[t,t] ty #[v,.slice a 0 c]).run P w=.ok v w:=by
 rcases bP.2 with ⟨rfl,rfl⟩|⟨g,cap,cur,rfl,_,_,hnc,_⟩
 ·cases a <;> simp [Builtin.append_,run_underlying ht,sizeOf,typeInfo,hi,Builtin.lenOf,Builtin.firstCells,loadCells,loadCellsFrom]
 ·cases a <;> simp [Builtin.append_,run_underlying ht,sizeOf,typeInfo,hi,Builtin.lenOf,Builtin.firstCells,hnc,storeCells,loadCells,loadCellsFrom]
theorem LZ (w:World) (row:Option Nat):w.grownBy w row:=⟨rfl,rfl,rfl,ae _,fun _ _ _=>rfl⟩
theorem oG {P:Program} {w:World} {ops:Array Oper} {rest:List Oper} {o:Oper} {a:Act} {Q:Exit→Act→World→Prop} (hgd:o.guard=none) (s x:Operand) (t:TypeId)
  (ho:o.op=.call { callee:=.builtin .append,args:=#[s,x],argTypes:=#[t,t] })
  (base:Nat) (e:TypeId) (i:TypeInfo) (z:Value) (size bytes:Nat) (ht:P.underlying t=some (.slice e)) (hi:P.info? e=some i) (hz:i.zero=some z)
  (hsize:i.size=size) (hby:i.bytes=bytes) (hzs:z.cells.size=size) (hsz:0<size)
  (v:Value) (n:Nat) (xs:List Value) (hs:a.eval s=v) (bP:w.ownsRow base e size v n xs)
  (ad:Option Addr) (m c:Nat) (news:List Value) (hx:a.eval x=.slice ad m c) (hl:news.length=m*size) (hnews:m=0∨∃ g off,ad=some ⟨g,off,none⟩∧dJ w g off news) (h1:∀ u∈news,u.oneCell'=true)
  (h63:n+m≤maxLen) (hbytes:(n+m)*bytes≤140737488355328) (hbase:base≤w.heap.size)
  (h:∀ v' w',w'.ownsRow base e size v' (n+m) (xs++news)→w.grownBy w' v.ownBlock→(v'.ownBlock=v.ownBlock∨v'.ownBlock=some w.heap.size)→wpList P ops Q rest (a.put o.dst v') w'):wpList P ops Q (o :: rest) a w:=by
 rcases hnews with rfl|⟨g,off,rfl,hc⟩
 ·have hn:news=[]:=eF (by omega)
  subst hn
  refine wpList_plain hgd fun K hK=>?_
  have hrun:=BL (P:=P) (w:=w) base t o.type e i size ht hi v n xs bP ad c
  unfold Oper.wp
  simp [execOp,ho,resolve,invoke,builtin,hs,hx,hrun,Result.andThen]
  refine hK _ _ (h v w ?_ (LZ w _) (.inl rfl));rw [eu,bV];exact bP
 ·exact dD w hgd s x t ho base e i z size bytes ht hi hz hsize hby hzs hsz v n xs hs bP ⟨g,off,none⟩ m c news hx hl (fun j u hj=>by rw [Addr.add_lit];exact hc j u hj) h1 h63 hbytes hbase (fun v' w' a1 a2 _ a3=>h v' w' a1 a2 a3)
def sF:Pt→List Pt
 | .mk _ _ _ _ ks=>ks
def ji:List Pt→List Pt
 | []=>[]
 | p :: r=>sF p++ji r
theorem Ar:∀ (a b:List Pt),ji (a++b)=ji a++ji b
 | [],b=>rfl
 | p :: r,b=>by rw [bI,ji,ji,Ar r b,dA]
theorem BM {l:List Pt} {i:Nat} (h:i<l.length):ji (l.take (i+1))=ji (l.take i)++sF l[i]:=by
 rw [dC h,Ar];simp [ji]
theorem Ck:∀ l:List Pt,oN (ji l)+l.length≤oN l
 | []=>by simp [ji,oN]
 | .mk k t f e ks :: r=>by
  have:=Ck r;rw [ji,oN,Ci,aH,sM]
  show oN ks+_+_≤_
  omega
theorem ym:∀ l:List Pt,l≠[]→iL l=1+iL (ji l)
 | [.mk k t f e ks],_=>by
  rw [iL,iL,deep,ji,ji]
  show max (iL ks+1) 0=1+iL (ks++[])
  rw [eu];omega
 | .mk k t f e0 ks :: q :: r,_=>by
  have h:=ym (q :: r) (by simp)
  have happ:∀ a b:List Pt,iL (a++b)=max (iL a) (iL b):=by
   intro a b
   induction a with
   | nil=>rw [fw,iL];omega
   | cons x a ih=>rw [bI,iL,iL,ih];omega
  have e:ji (.mk k t f e0 ks :: q :: r)=ks++ji (q :: r):=rfl;rw [e,happ,iL,h,deep]
  omega
theorem aP.app {W:World} {R:Nat→Prop}:∀ {a b:List Pt} {xs ys:List Value},aP W R a xs→aP W R b ys→aP W R (a++b) (xs++ys)
 | [],_,xs,_,h,k=>by
  have h:xs=[]:=h;subst h
  exact k
 | p :: r,_,xs,ys,h,k=>by
  obtain ⟨lv,rest,rfl,h2,h3⟩:=h
  exact ⟨lv,rest++ys,by rw [dA],h2,aP.app h3 k⟩
def JM (W:World) (R:Nat→Prop) (l:List Pt) (v:Value):Prop:=∃ a c,v=.slice a l.length c∧(l=[]∨∃ g off xs,a=some ⟨g,off,none⟩∧dJ W g off xs∧aP W R l xs)
theorem tJ (p:Pt) (lv:Value) (h:∃ a n c,lv=.slice a n c):∀ u∈five p lv,u.oneCell'=true:=by
 obtain ⟨a,n,c,rfl⟩:=h
 cases p
 intro u hu;simp only [five,bB,ed,or_false] at hu
 rcases hu with rfl|rfl|rfl|rfl|rfl <;> rfl
theorem Au {W:World} {R:Nat→Prop}:∀ {l:List Pt} {xs:List Value},aP W R l xs→∀ u∈xs,u.oneCell'=true
 | [],xs,h,u,hu=>by rw [show xs=[] from h] at hu;cases hu
 | p :: r,xs,h,u,hu=>by
  obtain ⟨lv,rest,rfl,h2,h3⟩:=h
  rcases List.mem_append.1 hu with hu|hu
  ·obtain ⟨k,t,f,e,ks⟩:=p
   obtain ⟨a,c,rfl⟩:=eD h2
   exact tJ _ _ ⟨_,_,_,rfl⟩ u hu
  ·exact Au h3 u hu
theorem row_in {W:World} {R:Nat→Prop} {B m:Nat} {v:Value} {l:List Pt} {xs:List Value} (h:W.ownsRow B 49 5 v m xs) (hm:l.length=m) (hp:aP W R l xs):JM W R l v:=by
 subst hm
 rcases h.2 with ⟨rfl,h0⟩|⟨g,cap,cur,rfl,_⟩
 ·exact ⟨none,0,by rw [h0],.inl (eF h0)⟩
 ·refine ⟨some ⟨g,0,none⟩,cap,rfl,.inr ⟨g,0,xs,rfl,fun j u hj=>?_,hp⟩⟩
  have hj2:=(aL.1 hj).1;have hl:=h.1;rw [bA,h.cellAt j (by omega)];exact hj
theorem y8:(Tryz.prog.info? 49).map (fun i=>(i.zero,i.size,i.bytes))=some (some (.agg #[.string ⟨#[]⟩,.string ⟨#[]⟩,.int .i64 0,.int .i64 0,.slice none 0 0]),5,72):=by kernel_rfl
theorem L5 {w:World} {R:Nat→Prop} {l:List Pt} {v:Value} (hv:JM w R l v) (hw:oN l≤1099511627776) :
  Calls Tryz.prog 105 #[v] w fun e w'=>∃ v',e=.returned v'∧JM w' R (ji l) v'∧Below w.heap.size w w':=by
 obtain ⟨a,c,rfl,hrow⟩:=hv;obtain ⟨iP,hi0,hz0,hz1,hz2⟩:=eB y8;have HR:=hid hrow;have hlb:l.length≤1099511627776:=aJ (lU l) hw;have hkw:=Ck l;have HW:=hid (show oN (ji l)≤1099511627776 by omega);obtain ⟨n,hn⟩:∃ n,l.length=n:=⟨_,rfl⟩;have HN:=hid hn;rw [hn] at hlb;rw [hn];clear hrow hn hw hkw
 go_enter Tryz.func105,Tryz.ntmps105
 go_wp2_with fail
 go_loopw [3,8] (fun vv iv wr=>∃ (i m:Nat) (ys:List Value),iv=.int .i64 i∧i≤n∧Hid (m=(ji (l.take i)).length)∧Hid (aP w R (ji (l.take i)) ys)∧Hid (wr.ownsRow w.heap.size 49 5 vv m ys)∧Hid (Below w.heap.size w wr)) (fun _ iv _=>n - (Go.RowKit.intOf iv).toNat)
 case atStart=>exact ⟨0,0,[],rfl,aM _,hid rfl,hid rfl,hid (dB _ _ _ _),hid (ah _ _)⟩
 case round =>
  obtain ⟨i,m,ys,rfl,hi,HM,HP,HO,HB⟩:=hrel;obtain ⟨va,vc,rfl⟩:=eH HO.out
  by_cases hlt:i<n
  ·have hll:i<l.length:=by rw [HN.out];exact hlt
   obtain ⟨g,off,xs,rfl,hc,hp⟩:=HR.out.resolve_left (fun h=>by rw [h] at hll;exact aS _ hll);obtain ⟨k',t',f',e',ks',a',c',hK⟩:=Aq hp hc i hll;have hrow':=mZ hK.kids
   have hks:sF l[i]=ks':=by rw [hK.eq];rfl
   have hts:=BM hll;rw [hks] at hts;have htot:oN (ji l)≤1099511627776:=HW.out
   have hmk:m+ks'.length≤1099511627776:=by
    have h1:(ji (l.take (i+1))).length≤(ji l).length:=by
     have h2:ji l=ji (l.take (i+1))++ji (l.drop (i+1)):=by rw [← Ar,List.take_append_drop]
     rw [h2,aO];omega
    have h3:=lU (ji l);rw [hts,aO,← HM.out] at h1
    omega
   obtain ⟨zs,hz,hcz,hlz⟩:∃ zs,aP w R ks' zs∧(ks'.length=0∨∃ g off,a'=some ⟨g,off,none⟩∧dJ w g off zs)∧zs.length=ks'.length*5:=by
    rcases hrow'.2.2 with rfl|⟨g',off',zs,rfl,_,h2,h3⟩
    ·exact ⟨[],rfl,.inl rfl,rfl⟩
    ·exact ⟨zs,h3,.inr ⟨g',off',rfl,h2⟩,by have:=aP.length h3;omega⟩
   have hone:=Au hz;have kG:=hid (show m+ks'.length=(ji (l.take (i+1))).length by rw [hts,aO,← HM.out]);have ED:=hid (show aP w R (ji (l.take (i+1))) (ys++zs) by rw [hts];exact aP.app HP.out hz);have hKb:=hK.below HB.out;have j0:=hKb.k0;have j1:=hKb.k1;have j2:=hKb.k2;have j3:=hKb.k3;have j4:=hKb.k4;obtain ⟨kb,hkb⟩:∃ x,aX k'=x:=⟨_,rfl⟩;obtain ⟨tb,htb⟩:∃ x,aX t'=x:=⟨_,rfl⟩;rw [hkb] at j0;rw [htb] at j1
   have hcz2:∀ X,Below w.heap.size w X→(ks'.length=0∨∃ g off,a'=some ⟨g,off,none⟩∧dJ X g off zs):=fun X hX=>hcz.imp id (fun ⟨g,off,h1,h2⟩=>⟨g,off,h1,fun j u hj=>(hX.cell (aY w _ (h2 j u hj))).trans (h2 j u hj)⟩)
   have HCZ:=hid hcz2;have hbw:=HB.out.size;obtain ⟨kn,hkn⟩:∃ kn,ks'.length=kn:=⟨_,rfl⟩;rw [hkn] at hmk kG j4 hlz HCZ;have YV:=hid hlz;have Vz:=hid hone;clear hp hc hK hrow' hks hts htot hz hcz hKb hkb htb hcz2 hlz hone hkn HM HP
   go_upto_region 5 with fail
   obtain ⟨w1,hw1,hq1,hb1,hz1⟩:=gY wr (.cells #[.string kb,.string tb,.int .i64 f',.int .i64 e',.slice a' kn c'] 49);rw [hw1];obtain ⟨⟨q0,q1,q2,q3,q4⟩,qf⟩:=bZ hq1;have HO1:=hid (aR HO.out hb1);have HB1:=hid (HB.out.trans (hb1.mono hbw));have Av:=HB1.out.size;clear hq1 hb1 hw1 hz1 j0 j1 j2 j3 j4
   go_wp2_with (at_builtin;refine oG rfl _ _ 47 rfl w.heap.size 49 iP _ 5 72 Tryz.underlying47 hi0 hz0 hz1 hz2 rfl (by decide) _ m ys rfl HO1.out _ kn c' zs rfl YV.out (HCZ.out _ HB1.out) Vz.out (by unfold maxLen;omega) (by omega) Av ?_)
   intro v' w2 bP aN _;have uG:=hid bP;have HB2:=hid (HB1.out.grown aN Av (fun b hb=>(HO1.out.lt b hb).1));clear bP aN
   go_wp2_with fail
   go_roundw
   case rel=>exact ⟨i+1,m+kn,ys++zs,by go_num,by omega,kG,ED,uG,HB2⟩
   case measure=>simp [Go.RowKit.intOf];omega
  ·obtain rfl:i=n:=by omega
   go_wp2_with fail
   go_ret
   have ht:l.take i=l:=bX (by rw [HN.out];exact ae _);have hP:=HP.out;have hM:=HM.out;rw [ht] at hP hM
   exact ⟨_,rfl,row_in HO.out hM.symm (sD hP HB.out),HB.out⟩
theorem Sy {w:World} {R:Nat→Prop} (p:Pt) {lv:Value} (hv:aU w R p lv) (hw:sM p≤1099511627776) :
  Calls Tryz.prog 77 #[arg p lv] w fun e w'=>e=.returned (.int .i64 (deep p))∧Below w.heap.size w w':=by
 obtain ⟨k,t,f,e,ks⟩:=p;obtain ⟨a,c,rfl⟩:=eD hv;have HV:=hid hv;obtain ⟨D,hD⟩:∃ D,deep (.mk k t f e ks)=D:=⟨_,rfl⟩
 have hdl:iL [.mk k t f e ks]=D:=by rw [iL,iL,hD];omega
 have hDw:D≤1099511627776:=by
  have hdw:∀ (n:Nat) (l:List Pt),oN l≤n→iL l≤oN l:=by
   intro n
   induction n with
   | zero=>intro l h;cases l with
    | nil=>rw [iL];exact aM _
    | cons p r=>have:=Ns p;rw [oN] at h;omega
   | succ n ih =>
    intro l h
    by_cases h0:l=[]
    ·rw [h0,iL];exact aM _
    ·have h1:=Ck l
     have h2:0<l.length:=List.length_pos_iff.2 h0;have h3:=ih (ji l) (by omega);rw [ym l h0];omega
  have h1:=hdw _ [.mk k t f e ks] (ae _);rw [hdl] at h1;rw [oN,oN] at h1
  omega
 have HD:=hid hdl;have HWT:=hid (show oN [.mk k t f e ks]≤1099511627776 by rw [oN,oN];omega);rw [hD];simp only [arg,five];obtain ⟨kb,hkb⟩:∃ x,aX k=x:=⟨_,rfl⟩;obtain ⟨tb,htb⟩:∃ x,aX t=x:=⟨_,rfl⟩;have HKT:=hid (And.intro hkb htb);rw [hkb,htb];obtain ⟨n,hn⟩:∃ n,ks.length=n:=⟨_,rfl⟩;have HN:=hid hn;rw [hn];clear hv hD hdl hw hkb htb hn
 go_enter Tryz.func77,Tryz.ntmps77
 go_upto_region 2 with fail
 obtain ⟨w1,hw1,hq1,hb1,hz1⟩:=gY w (.cells #[.string kb,.string tb,.int .i64 f,.int .i64 e,.slice a n c] 49);obtain ⟨⟨q0,q1,q2,q3,q4⟩,qf⟩:=bZ hq1;have HB1:=hid hb1;rw [hw1];clear hq1 hb1 hw1
 go_wp2_with fail
 obtain ⟨w2,hw2,hq2,hb2,hz2⟩:=gY w1 (.cells #[.string kb,.string tb,.int .i64 f,.int .i64 e,.slice a n c] 49);rw [hw2];have HB2:=hid (HB1.out.trans (hb2.mono HB1.out.size))
 have Yl:Hid (JM w2 R [.mk k t f e ks] (.slice (some ⟨w1.heap.size,0,none⟩) 1 1)):=hid ⟨_,1,rfl,.inr ⟨w1.heap.size,0,five (.mk k t f e ks) (.slice a ks.length c),rfl,fun j u hj=>by
  have h:(five (.mk k t f e ks) (.slice a ks.length c))=[.string kb,.string tb,.int .i64 f,.int .i64 e,.slice a n c]:=by rw [five,HKT.out.1,HKT.out.2,HN.out]
  rw [h] at hj;rw [bA]
  unfold World.cell?
  rw [hq2]
  simpa using hj,⟨_,[],by rw [eu],dE HV.out HB2.out,rfl⟩⟩⟩
 clear hw2 hq2 hb2 hz1 hz2 q0 q1 q2 q3 q4 qf;obtain ⟨N0,hN0⟩:∃ N0,oN [.mk k t f e ks]=N0:=⟨_,rfl⟩;have HN0:=hid hN0;have hDb:=hDw;clear hN0
 go_loopg [3,4] N0 (fun N kv vv wr=>∃ (d:Nat) (l:List Pt),kv=.int .i64 d∧d≤D∧Hid (d+iL l=D)∧Hid (oN l=N)∧Hid (N≤1099511627776)∧Hid (JM wr R l vv)∧Hid (Below w.heap.size w wr))
 case atStart=>exact ⟨0,_,rfl,aM _,hid (by rw [HD.out];omega),HN0,hid (by have:=HWT.out;have:=HN0.out;omega),Yl,HB2⟩
 case round =>
  obtain ⟨d,l,rfl,hd,YW,HNl,HNb,HR,HB⟩:=hrel;have hbw:=HB.out.size
  by_cases h0:l=[]
  ·subst h0
   have hDL:=YW.out;rw [iL,bV] at hDL;subst hDL;obtain ⟨va,vc,rfl,_⟩:=HR.out;have hz:([]:List Pt).length=0:=rfl;rw [hz];clear hz
   go_wp2_with fail
   go_ret
   exact ⟨rfl,HB.out⟩
  ·have hpos:=List.length_pos_iff.2 h0
   have hkw:=Ck l;have hdk:=ym l h0;have cK:=L5 HR.out (by have:=HNl.out;have:=HNb.out;omega);have afq:=hid (show d+1+iL (ji l)=D by have:=YW.out;omega)
   have hd2:d+1≤D:=by have:=YW.out;omega
   have HWK:=hid (Nat.lt_of_lt_of_eq (show oN (ji l)<oN l by omega) HNl.out);obtain ⟨va,vc,rfl,_⟩:=HR.out;obtain ⟨n',hn'⟩:∃ n',l.length=n':=⟨_,rfl⟩;rw [hn'] at cK hpos;rw [hn'];clear hkw hdk YW HR hn'
   go_wp2_with fail
   refine cK.mono ?_;rintro e w3 ⟨v',rfl,hr3,hb3⟩;have HR3:=hid hr3;have HB3:=hid (HB.out.trans (hb3.mono hbw));clear cK hr3 hb3
   go_wp2_with fail
   go_roundg (oN (ji l))
   case rel=>exact ⟨d+1,ji l,by go_num,hd2,afq,hid rfl,hid (by have:=HWK.out;have:=HNb.out;omega),HR3,HB3⟩
   case measure=>have:=HWK.out;omega
end J
end Go.Proofs.YtojoahlpgmnbnaaGreatDoor
