/- What the claim needs of the texts KScan, KNew, JMem, KWt, JDeep. -/
import Derived.Test.YtojoahlpgmnbnaaGreatDoorUFOp
import Derived.Test.YtojoahlpgmnbnaaGreatDoorUF9
import Derived.Test.YtojoahlpgmnbnaaGreatDoorUF1
import Derived.Deep.QuietTactic
import Derived.Deep.LoopGhost
import Derived.Deep.RegionHeld3
import Derived.Deep.RegionWith
import Derived.BigQuiet
import Derived.BigRegion
import Derived.Deep.DeepCutAuto
import Derived.Test.YtojoahlpgmnbnaaGreatDoorUF8
import Derived.Laws.AppendOwn
import Derived.Laws.OwnMore
import Derived.OwnWalk
import Derived.Maps.AppendAt
namespace Go.Proofs.YtojoahlpgmnbnaaGreatDoor.S
open Go.RowKit
open Go.Lib hiding intOf
open U L
theorem owns_base {B B' n size:Nat} {e:TypeId} {v:Value} {xs:List Value} {W:World} (h:W.ownsRow B' e size v n xs) (hB:B≤B'):W.ownsRow B e size v n xs:=by
 refine ⟨h.1,?_⟩
 rcases h.2 with h|⟨g,cap,cur,h1,h2,h3⟩
 ·exact .inl h
 ·exact .inr ⟨g,cap,cur,h1,Nat.le_trans hB h2,h3⟩
set_option maxHeartbeats 8000000 in
set_option maxRecDepth 20000 in
theorem scan_own (s:ByteArray) (w:World) (hs:s.size≤1099511627776) (hT:Tabs w) :
  Calls Tryz.prog 48 #[.string s] w fun e w'=>∃ v,e=.returned v∧w'.ownsRow w.heap.size 86 4 v (scanB (okB s) s.toList).length (tokCs (scanB (okB s) s.toList))∧Below w.heap.size w w':=by
 have cR:=right_any s w hs hT
 obtain ⟨r,hr⟩:∃ r,okB s=r:=⟨_,rfl⟩
 have HS0:Hid (ScSt r s 0 []):=hid (scSt_start r s (fun h=>by rw [hr];exact h))
 rw [hr] at cR ⊢
 clear hr
 go_enter Tryz.func48,Tryz.ntmps48
 go_wp2_with fail
 refine cR.mono ?_
 rintro e w1 ⟨rfl,hb1⟩
 have HB1:=hid hb1
 clear cR hb1
 go_wp2_with fail
 obtain ⟨d,hd⟩:∃ d,w1.heap.size=d:=⟨_,rfl⟩
 obtain ⟨W0,hW0⟩:∃ W,w1.alloc (.cells #[.string s,.bool r,.int .i64 0,.slice none 0 0] 107)=W:=⟨_,rfl⟩
 have HB0:Hid (ScB d s r ((0:Nat):Int) (.slice none 0 0) W0):=hid (by rw [← hd,← hW0];exact heap_alloc_new w1 _)
 have HL0:Hid (Below d w1 W0):=hid (by rw [← hW0];exact (Below.refl d w1).alloc (by omega) _)
 have hwd:w.heap.size≤d:=by have:=HB1.out.size;omega
 rw [hd,hW0]
 clear hW0 hd
 go_loopw [] (fun wr=>∃ (i:Nat) (O:List TokP) (v:Value),i≤s.size∧Hid (ScB d s r i v wr)∧Hid (Row d v O wr)∧Hid (ScSt r s i O)∧Hid (Mut (d+1) d W0 wr)) (fun wr=>s.size - atOf d wr)
 case atStart=>exact ⟨0,[],_,Nat.zero_le _,HB0,hid (World.ownsRow_nil _ _ _ _),HS0,hid (Mut.refl _ _ _)⟩
 case round =>
  obtain ⟨i,O,v,hi,HB,HR,HS,HM⟩:=hrel
  clear HS0 HB0
  have h2:=HB.out.c2
  have hat:=HB.out.at
  by_cases hlt:i<s.size
  ·have cS:=step_any d s r i v O wr HB.out HR.out HS.out hlt hs
   go_wp2_with fail
   refine cS.mono ?_
   rintro e w2 ⟨j,O2,hij,hjs,hS2,rfl,v2,hB2,hR2,hM2⟩
   have hat2:=hB2.at
   have HB2:=hid hB2
   have HR2:=hid hR2
   have HS2:=hid hS2
   have HM2:=hid (HM.out.trans hM2)
   clear cS hB2 hR2 hS2 hM2 h2
   go_wp2_with fail
   go_roundw
   case rel=>exact ⟨j,O2,v2,hjs,HB2,HR2,HS2,HM2⟩
   case measure=>rw [hat,hat2];omega
  ·obtain rfl:i=s.size:=by omega
   have cM:=mayEnd_any d s r s.size v O wr HB.out HR.out (by have:=HS.out.few;omega)
   clear hat
   go_wp2_with fail
   refine cM.mono ?_
   rintro e w2 ⟨rfl,hb2⟩
   have HB2:=hid (HB.out.below hb2)
   have HR2:Hid (Row d v O w2):=hid (owns_later HR.out hb2)
   have hdw:=HB.out.lt
   have HM2:Hid (Mut (d+1) d W0 w2):=hid (HM.out.trans (Mut.of_below (⟨hb2.os,hb2.tape,hb2.output,hb2.size,fun k hk=>hb2.block k (by omega)⟩:Below (d+1) wr w2)))
   have hfin:∀ (w':World),Mut (d+1) d W0 w'→Below w.heap.size w w':=fun w' hm =>
    HB1.out.trans ((HL0.out.trans ((hm.mono (Nat.le_succ d)).below (Nat.le_refl d))).mono hwd)
   have HF:=hid hfin
   clear cM hb2 h2 hfin
   cases hen:endL O
   ·have HX:Hid (scanB r s.toList=O):=hid (by have h:=HS.out.all;rw [scanAt_end,hen] at h;simpa using h)
    have h3:=HB2.out.c3
    clear hen
    go_wp2_with fail
    go_ret
    exact ⟨_,rfl,by rw [HX.out];exact owns_base HR2.out (by omega),HF.out _ HM2.out⟩
   ·have HX:Hid (scanB r s.toList=O++[⟨5,[],s.size,s.size⟩]):=hid (by have h:=HS.out.all;rw [scanAt_end,hen] at h;simpa using h)
    have cT:=take_any d s r s.size 0 5 v O w2 HB2.out HR2.out (by have:=HS.out.few;omega) hs (by omega)
    rw [tk_end] at cT
    clear hen
    go_wp2_with fail
    refine cT.mono ?_
    rintro e w3 ⟨rfl,v3,hB3,hR3,hM3⟩
    have h3:=hB3.c3
    have HR3:=hid hR3
    have HM3:=hid (HM2.out.trans hM3)
    clear cT hB3 hR3 hM3
    go_wp2_with fail
    go_ret
    exact ⟨_,rfl,by rw [HX.out];exact owns_base HR3.out (by omega),HF.out _ HM3.out⟩
end Go.Proofs.YtojoahlpgmnbnaaGreatDoor.S
namespace Go.Proofs.YtojoahlpgmnbnaaGreatDoor.K
open Go.RowKit
open Go.Lib hiding intOf
open U S T
theorem infoT:(Tryz.prog.info? 86).map (fun i=>(i.zero,i.size,i.bytes))=some (some (.agg #[.int .i64 0,.string ⟨#[]⟩,.int .i64 0,.int .i64 0]),4,40):=by kernel_rfl
theorem tok_one' (t:TokP):∀ u∈tokC t,u.oneCell'=true:=by
 intro u hu
 simp only [tokC,List.mem_cons,List.not_mem_nil,or_false] at hu
 rcases hu with rfl|rfl|rfl|rfl <;> rfl
theorem owns_grown {B B' n m size size':Nat} {e e':TypeId} {v v':Value} {xs ys:List Value} {X X':World} (h:X.ownsRow B e size v n xs) (k:X.ownsRow B' e' size' v' m ys) (hne:e≠e') (hg:X.grownBy X' v'.ownBlock):X'.ownsRow B e size v n xs:=by
 refine h.kept hg ?_
 cases hv:v.ownBlock with
 | none=>simp
 | some b =>
  cases hv':v'.ownBlock with
  | none=>simp
  | some b' =>
   have:b≠b':=fun e1=>by
    subst e1
    exact hne ((owns_ty h hv).one (owns_ty k hv'))
   simp [this]
theorem scanF_len (right:Bool):∀ (n:Nat) (l:By) (pos:Nat) (ended:Bool),(scanF right n l pos ended).length≤n
 | 0,_,_,_=>Nat.le_refl _
 | n+1,[],pos,ended=>by simp only [scanF];split <;> simp
 | n+1,c :: r,pos,ended=>by
  simp only [scanF]
  split
  ·simp only [List.length_cons];exact Nat.succ_le_succ (scanF_len right n _ _ _)
  ·split
   ·exact Nat.le_succ_of_le (scanF_len right n _ _ _)
   ·split
    ·exact Nat.le_succ_of_le (scanF_len right n _ _ _)
    ·simp only [List.length_cons];exact Nat.succ_le_succ (scanF_len right n _ _ _)
theorem scan_len' (right:Bool) (l:By):(scanB right l).length≤l.length+1:=scanF_len right _ l 0 false
theorem lt3 {X:World} {g:Nat} {o:Obj} (h:X.heap[g]?=some o):g<X.heap.size:=(Array.getElem?_eq_some_iff.1 h).1
theorem below_grown {m size:Nat} {e:TypeId} {v:Value} {ys:List Value} {W0 X X':World} (h:Below W0.heap.size W0 X) (k:X.ownsRow W0.heap.size e size v m ys) (hg:X.grownBy X' v.ownBlock):Below W0.heap.size W0 X':=h.grown hg h.size (fun b hb=>(k.lt b hb).1)
def rootV:List Value:=[.string ⟨#[]⟩,.string ⟨#[]⟩,.int .i64 0,.int .i64 0,.slice none 0 0,.int .i64 0]
theorem new_end {W0 X:World} {L:List TokP} {size n g4 c4 g5:Nat} (hL:L.length=n) (hb:Below W0.heap.size W0 X) (h4:X.ownsRow W0.heap.size 86 4 (.slice (some ⟨g4,0,none⟩) (n+1) c4) (n+1) (tokCs L++tokC (endT size))) (h5:X.ownsRow W0.heap.size 128 6 (.slice (some ⟨g5,0,none⟩) 1 1) 1 rootV) :
  ∃ O,Mem X.heap.size L size (.slice (some ⟨g4,0,none⟩) (n+1) c4) ⟨0,[],[root]⟩ O (X.alloc (.cells #[.slice (some ⟨g4,0,none⟩) (n+1) c4,.int .i64 0,.slice none 0 0,.slice (some ⟨g5,0,none⟩) 1 1] 123))∧Below W0.heap.size W0 (X.alloc (.cells #[.slice (some ⟨g4,0,none⟩) (n+1) c4,.int .i64 0,.slice none 0 0,.slice (some ⟨g5,0,none⟩) 1 1] 123))∧∀ k,O k→W0.heap.size≤k:=by
 have hbX:Below X.heap.size X (X.alloc (.cells #[.slice (some ⟨g4,0,none⟩) (n+1) c4,.int .i64 0,.slice none 0 0,.slice (some ⟨g5,0,none⟩) 1 1] 123)):=(Below.refl _ _).alloc (Nat.le_refl _) _
 have hz:=hb.size
 have l4:=h4.lt g4 rfl
 have l5:=h5.lt g5 rfl
 have t4:=owns_ty h4 (k:=g4) rfl
 have t5:=owns_ty h5 (k:=g5) rfl
 have hne:g4≠g5:=fun e=>by rw [e] at t4;exact absurd (t4.one t5) (by decide)
 have hq:=heap_new X (.cells #[.slice (some ⟨g4,0,none⟩) (n+1) c4,.int .i64 0,.slice none 0 0,.slice (some ⟨g5,0,none⟩) 1 1] 123)
 have h4':=owns_later h4 hbX
 have h5':=owns_later h5 hbX
 have t4':=owns_ty h4' (k:=g4) rfl
 generalize hW:X.alloc (.cells #[.slice (some ⟨g4,0,none⟩) (n+1) c4,.int .i64 0,.slice none 0 0,.slice (some ⟨g5,0,none⟩) 1 1] 123)=W at hbX hq h4' h5' t4' ⊢
 refine ⟨fun k=>k=X.heap.size∨k=g5,⟨.slice none 0 0,.slice (some ⟨g5,0,none⟩) 1 1,[none],[],rootV,hq,?_,World.ownsRow_nil _ _ _ _,rfl,owns_base h5' (Nat.zero_le _),?_,?_,?_⟩,hb.trans (hbX.mono hz),?_⟩
 ·refine ⟨g4,0,c4,by rw [hL],⟨Nat.lt_of_lt_of_le l4.2 hbX.size,fun h=>?_,?_⟩,?_⟩
  ·rcases h with h|h
   ·omega
   ·exact hne h
  ·obtain ⟨cs,fr,h⟩:=t4'
   exact ⟨_,h,rfl⟩
  ·intro j u hj
   have e:tokCs (L++[endT size])=tokCs L++tokC (endT size):=by rw [tokCs_app];simp [tokCs]
   rw [e] at hj
   have hl:(tokCs L++tokC (endT size)).length=(n+1)*4:=by rw [List.length_append,tokCs_length,hL];simp [tokC];omega
   have hj2:=(List.getElem?_eq_some_iff.1 hj).1
   rw [Nat.zero_add,h4'.cellAt j (by omega)]
   exact hj
 ·exact ⟨.slice none 0 0,[],[],[],rfl,rfl,World.ownsRow_nil _ _ _ _,rfl,rfl,rfl⟩
 ·exact ⟨fun g h=>by (cases h),trivial⟩
 ·intro k
  simp [Value.ownBlock]
  constructor
  ·rintro (h|h)
   ·exact .inl h
   ·exact .inr h.symm
  ·rintro (h|h)
   ·exact .inl h
   ·exact .inr h.symm
 ·rintro k (rfl|rfl)
  ·omega
  ·exact l5.1
theorem make_root (W:World):(Instr.makeSlice 120 (.int .i64 1) (.int .i64 1)).run Tryz.prog W=.ok (.slice (some ⟨W.heap.size,0,none⟩) 1 1) (W.alloc (.cells #[.string ⟨#[]⟩,.string ⟨#[]⟩,.int .i64 0,.int .i64 0,.slice none 0 0,.int .i64 0] 128)):=by
 obtain ⟨iB,hi0,hz0,hz1,hz2⟩:=info_parts infoB
 have h:=run_makeSlice (P:=Tryz.prog) (w:=W) 120 128 iB _ Tryz.underlying120 hi0 hz0 .i64 .i64 1 1 (by decide) (by decide) (by rw [hz1];decide) (by rw [hz2];decide) (by decide)
 rw [hz1,show madeCells (Value.agg #[.string ⟨#[]⟩,.string ⟨#[]⟩,.int .i64 0,.int .i64 0,.slice none 0 0,.int .i64 0]).cells (Int.toNat 1*6)=#[.string ⟨#[]⟩,.string ⟨#[]⟩,.int .i64 0,.int .i64 0,.slice none 0 0,.int .i64 0] from by kernel_rfl] at h
 exact h
theorem owns_root (W:World):(W.alloc (.cells #[.string ⟨#[]⟩,.string ⟨#[]⟩,.int .i64 0,.int .i64 0,.slice none 0 0,.int .i64 0] 128)).ownsRow W.heap.size 128 6 (.slice (some ⟨W.heap.size,0,none⟩) 1 1) 1 rootV :=
 ⟨rfl,.inr ⟨W.heap.size,1,_,rfl,Nat.le_refl _,heap_new _ _,by decide,by unfold maxLen;decide,rfl,rfl⟩⟩
set_option maxHeartbeats 8000000 in
set_option maxRecDepth 20000 in
theorem new_any (s:ByteArray) (w:World) (hs:s.size≤1000000000000) (hlw:(scanB (okB s) s.toList).length≤1000001) (hT:Tabs w) :
  Calls Tryz.prog 75 #[.string s] w fun e w'=>∃ d lv O,e=.returned (ptr d)∧Mem d (scanB (okB s) s.toList) s.size lv ⟨0,[],[root]⟩ O w'∧Below w.heap.size w w'∧∀ k,O k→w.heap.size≤k:=by
 obtain ⟨L,hL⟩:∃ L,scanB (okB s) s.toList=L:=⟨_,rfl⟩
 have hlen:L.length≤1000001:=by rw [← hL];exact hlw
 obtain ⟨n,hn⟩:∃ n,L.length=n:=⟨_,rfl⟩
 rw [hn] at hlen
 obtain ⟨iT,hi0,hz0,hz1,hz2⟩:=info_parts infoT
 obtain ⟨z,hz⟩:∃ z,s.size=z:=⟨_,rfl⟩
 have HSS:=hid hs
 clear hlw
 have HTT:=hid hT
 have HZ:=hid hz
 have hmk:=make_root
 rw [hz] at hs
 rw [hL,hz]
 have HLn:=hid hn
 have HLL:=hid hL
 clear hT hL hn
 go_enter Tryz.func75,Tryz.ntmps75
 go_upto_region 2 with fail
 obtain ⟨W0,hW0⟩:∃ W0,w.alloc (.cells #[.int .i64 (-1),.string ⟨#[]⟩,.int .i64 z,.int .i64 z] 86)=W0:=⟨_,rfl⟩
 have hq0:W0.heap[w.heap.size]?=some (.cells #[.int .i64 (-1),.string ⟨#[]⟩,.int .i64 z,.int .i64 z] 86 (0,0)):=by rw [← hW0];exact heap_new _ _
 have hbw:Below w.heap.size w W0:=by rw [← hW0];exact (Below.refl _ _).alloc (Nat.le_refl _) _
 have hzw:w.heap.size<W0.heap.size:=by rw [← hW0];simp
 rw [hW0]
 have HBW:=hid hbw
 have HZW:=hid hzw
 have HC:Hid (∀ X,Below W0.heap.size W0 X→Calls Tryz.prog 48 #[.string s] X fun e X'=>∃ v,e=.returned v∧X'.ownsRow W0.heap.size 86 4 v n (tokCs L)∧Below X.heap.size X X'):=hid (fun X hX=>(scan_own s X (by omega) (HTT.out.later (hbw.trans (hX.mono (by omega))))).mono (by
  rintro e X' ⟨v,h1,h2,h3⟩
  rw [HLL.out,HLn.out] at h2
  exact ⟨v,h1,owns_base h2 (by have:=hX.size;omega),h3⟩))
 have hq:∀ X,Below W0.heap.size W0 X→X.cell? ⟨w.heap.size,0,none⟩=some (.int .i64 (-1))∧X.cell? ⟨w.heap.size,1,none⟩=some (.string ⟨#[]⟩)∧X.cell? ⟨w.heap.size,2,none⟩=some (.int .i64 z)∧X.cell? ⟨w.heap.size,3,none⟩=some (.int .i64 z):=fun X hX=>by
  have h:=(hX.block w.heap.size (by omega)).trans hq0
  exact ⟨by simp [World.cell?,h],by simp [World.cell?,h],by simp [World.cell?,h],by simp [World.cell?,h]⟩
 have HQ:=hid hq
 have HE:Hid (∀ X g4 c4 g5,Below W0.heap.size W0 X→X.ownsRow W0.heap.size 86 4 (.slice (some ⟨g4,0,none⟩) (n+1) c4) (n+1) (tokCs L++tokC (endT z))→X.ownsRow W0.heap.size 128 6 (.slice (some ⟨g5,0,none⟩) 1 1) 1 rootV →
   ∃ O,Mem X.heap.size L z (.slice (some ⟨g4,0,none⟩) (n+1) c4) ⟨0,[],[root]⟩ O (X.alloc (.cells #[.slice (some ⟨g4,0,none⟩) (n+1) c4,.int .i64 0,.slice none 0 0,.slice (some ⟨g5,0,none⟩) 1 1] 123))∧Below w.heap.size w (X.alloc (.cells #[.slice (some ⟨g4,0,none⟩) (n+1) c4,.int .i64 0,.slice none 0 0,.slice (some ⟨g5,0,none⟩) 1 1] 123))∧∀ k,O k→w.heap.size≤k):=hid (fun X g4 c4 g5 h1 h2 h3=>by
  obtain ⟨O,e1,e2,e3⟩:=new_end (size:=z) HLn.out h1 h2 h3
  exact ⟨O,e1,HBW.out.trans (e2.mono (by have:=HZW.out;omega)),fun k hk=>by have:=e3 k hk;have:=HZW.out;omega⟩)
 have hb0:Below W0.heap.size W0 W0.drew:=(Below.refl _ _).drew
 have HB0:=hid hb0
 clear hq hq0 hbw hzw hW0 hb0 HTT HSS
 refine wp_region_held_drew (S:=fun X=>Below W0.heap.size W0 X) (by kernel_rfl) HB0.out (fun hHeld=>?_)
 obtain ⟨V,hV⟩:∃ V,W0.drew=V:=⟨_,rfl⟩
 rw [hV] at HB0 hHeld ⊢
 clear hV
 have HQ0:=HQ.out
 refine wpAnyH_take (i:=0) (oi:=({ dst:=some 9,op:=Op.move (Operand.tmp 0),type:=9,pos := "reader.go:33",after:=#[],guard:=none }:Oper)) (v:=.string s) rfl (by kernel_rfl) (by kernel_rfl) (by kernel_rfl) (fun _ _ _ h=>h) (Or.inl ⟨by rfl,fun X hX=>rfl⟩) hHeld ?_
 (try simp only [Act.put,List.setIfInBounds_toArray,List.set_cons_zero,List.set_cons_succ])
 refine wpAnyH_take (i:=2) (oi:=({ dst:=some 11,op:=Op.load 86 (Operand.tmp 3),type:=86,pos := "reader.go:33",after:=#[],guard:=none }:Oper)) (v:=.agg #[.int .i64 (-1),.string ⟨#[]⟩,.int .i64 z,.int .i64 z]) rfl (by kernel_rfl) (by kernel_rfl) (by kernel_rfl) (fun _ _ _ h=>h) (Or.inl ⟨by rfl,fun X hX=>by have q0:=(HQ0 X hX).1;have q1:=(HQ0 X hX).2.1;have q2:=(HQ0 X hX).2.2.1;have q3:=(HQ0 X hX).2.2.2;go_simp⟩) hHeld ?_
 (try simp only [Act.put,List.setIfInBounds_toArray,List.set_cons_zero,List.set_cons_succ])
 clear HQ0
 refine wpAnyH_ready (rs:=[1,3,5]) (by kernel_rfl) (by simp) ?_
 refine (AllReadyH.cons (o:=OP.p46) rfl (fun K hK=>?_) (AllReadyH.cons (o:=OP.p47) rfl (fun K hK=>?_) (AllReadyH.cons (o:=OP.p48) rfl (fun K hK=>?_) AllReadyH.nil)))
 ·refine wanted_step (by kernel_rfl) ?_
  go_simp
  go_at_call 48
  refine (HC.out _ HB0.out).mono ?_
  rintro e X1 ⟨v1,rfl,w1,k1⟩
  have hb1:=HB0.out.trans (k1.mono HB0.out.size)
  dsimp only
  refine hK.out _ _ (hb1) (fun hHeld=>?_)
  (try simp only [Act.put,List.setIfInBounds_toArray,List.set_cons_zero,List.set_cons_succ])
  clear hK K
  refine wpAnyH_ready (rs:=[3,5]) (by kernel_rfl) (by simp) ?_
  refine (AllReadyH.cons (o:=OP.p47) rfl (fun K hK=>?_) (AllReadyH.cons (o:=OP.p48) rfl (fun K hK=>?_) AllReadyH.nil))
  ·refine wanted_step (by kernel_rfl) ?_
   go_simp
   obtain ⟨g3,hg2⟩:∃ g,X1.heap.size=g:=⟨_,rfl⟩
   obtain ⟨X2,hX2⟩:∃ Y,X1.alloc (.cells #[.int .i64 (-1),.string ⟨#[]⟩,.int .i64 z,.int .i64 z] 86)=Y:=⟨_,rfl⟩
   have f3_2:X2.heap[g3]?=some (.cells #[.int .i64 (-1),.string ⟨#[]⟩,.int .i64 z,.int .i64 z] 86 (0,0)):=by rw [← hX2,← hg2];exact heap_new _ _
   have k2:Below X1.heap.size X1 X2:=by rw [← hX2];exact (Below.refl _ _).alloc (Nat.le_refl _) _
   have hb2:=hb1.trans (k2.mono hb1.size)
   have f1_2:=owns_later w1 k2
   rw [hg2,hX2]
   clear hg2 hX2 k2
   refine hK.out _ _ (hb2) (fun hHeld=>?_)
   (try simp only [Act.put,List.setIfInBounds_toArray,List.set_cons_zero,List.set_cons_succ])
   clear hK K
   refine wpAnyH_ready (rs:=[4,5]) (by kernel_rfl) (by simp) ?_
   refine (AllReadyH.cons (o:=OP.p49) rfl (fun K hK=>?_) (AllReadyH.cons (o:=OP.p48) rfl (fun K hK=>?_) AllReadyH.nil))
   ·refine wanted_step (by kernel_rfl) ?_
    refine wp_append_lies _ (.tmp 10) (.tmp 12) 79 rfl W0.heap.size 86 iT (.agg #[.int .i64 0,.string ⟨#[]⟩,.int .i64 0,.int .i64 0]) 4 40 Tryz.underlying79 hi0 hz0 hz1 hz2 rfl (by decide) v1 n (tokCs L) rfl f1_2 ⟨g3,0,none⟩ 1 1 (tokC (endT z)) rfl rfl (World.news_of_block (cs:=#[.int .i64 (-1),.string ⟨#[]⟩,.int .i64 z,.int .i64 z]) f3_2) (tok_one' _) (by decide) (by unfold maxLen;omega) (by omega) hb2.size _ rfl ?_
    intro g4 c4 X3 w3 hgrow hat hlt
    have hb3:=below_grown hb2 f1_2 hgrow
    refine hK.out _ _ (hb3) (fun hHeld=>?_)
    (try simp only [Act.put,List.setIfInBounds_toArray,List.set_cons_zero,List.set_cons_succ])
    clear hK K
    refine wpAnyH_ready (rs:=[5]) (by kernel_rfl) (by simp) ?_
    refine (AllReadyH.cons (o:=OP.p48) rfl (fun K hK=>?_) AllReadyH.nil)
    refine wanted_step (by kernel_rfl) ?_
    go_simp
    have o4:=owns_root X3
    obtain ⟨g5,hg4⟩:∃ g,X3.heap.size=g:=⟨_,rfl⟩
    obtain ⟨X4,hX4⟩:∃ Y,X3.alloc (.cells #[.string ⟨#[]⟩,.string ⟨#[]⟩,.int .i64 0,.int .i64 0,.slice none 0 0,.int .i64 0] 128)=Y:=⟨_,rfl⟩
    have k4:Below X3.heap.size X3 X4:=by rw [← hX4];exact (Below.refl _ _).alloc (Nat.le_refl _) _
    have hb4:=hb3.trans (k4.mono hb3.size)
    have f5_4:X4.ownsRow W0.heap.size 128 6 (.slice (some ⟨g5,0,none⟩) 1 1) 1 rootV:=by rw [← hX4,← hg4];exact owns_base o4 hb3.size
    have f4_4:=owns_later w3 k4
    rw [hg4,hX4]
    clear hg4 hX4 k4 o4
    refine hK.out _ _ (hb4) (fun hHeld=>?_)
    (try simp only [Act.put,List.setIfInBounds_toArray,List.set_cons_zero,List.set_cons_succ])
    clear hK K
    obtain ⟨O,hM,hbe,hO⟩:=HE.out X4 g4 c4 g5 hb4 f4_4 f5_4
    refine wpAnyH_take (i:=6) (oi:=OP.p50) (v:=.agg #[.slice (some ⟨g4,0,none⟩) (n+1) c4,.int .i64 0,.slice none 0 0,.slice (some ⟨g5,0,none⟩) 1 1]) rfl (by kernel_rfl) (by kernel_rfl) (by kernel_rfl) (fun _ _ _ h=>h) (Or.inl ⟨by rfl,fun X hX=>by kernel_rfl⟩) hHeld ?_
    (try simp only [Act.put,List.setIfInBounds_toArray,List.set_cons_zero,List.set_cons_succ])
    refine wpAnyH_ready (rs:=[7]) (by kernel_rfl) (by simp) ?_
    refine (AllReadyH.cons (o:=OP.p51) rfl (fun K hK=>?_) AllReadyH.nil)
    refine wanted_step (by kernel_rfl) ?_
    go_simp
    refine hK.out _ _ (hb4.alloc hb4.size _) (fun hHeld=>?_)
    (try simp only [Act.put,List.setIfInBounds_toArray,List.set_cons_zero,List.set_cons_succ])
    clear hK K
    refine wpAnyH_take (i:=8) (oi:=OP.p52) (v:=ptr X4.heap.size) rfl (by kernel_rfl) (by kernel_rfl) (by kernel_rfl) (fun _ _ _ h=>h) (Or.inl ⟨by rfl,fun X hX=>rfl⟩) hHeld ?_
    (try simp only [Act.put,List.setIfInBounds_toArray,List.set_cons_zero,List.set_cons_succ])
    refine wpAnyH_done (by kernel_rfl) ?_ _
    generalize X4.alloc (.cells #[.slice (some ⟨g4,0,none⟩) (n+1) c4,.int .i64 0,.slice none 0 0,.slice (some ⟨g5,0,none⟩) 1 1] 123)=Z at hM hbe ⊢
    generalize X4.heap.size=d at hM ⊢
    clear hHeld
    go_wp2_with fail
    go_ret
    exact ⟨_,_,O,rfl,hM,hbe,hO⟩
   ·refine wanted_step (by kernel_rfl) ?_
    go_simp
    have o5:=owns_root X2
    obtain ⟨g5,hg5⟩:∃ g,X2.heap.size=g:=⟨_,rfl⟩
    obtain ⟨X5,hX5⟩:∃ Y,X2.alloc (.cells #[.string ⟨#[]⟩,.string ⟨#[]⟩,.int .i64 0,.int .i64 0,.slice none 0 0,.int .i64 0] 128)=Y:=⟨_,rfl⟩
    have k5:Below X2.heap.size X2 X5:=by rw [← hX5];exact (Below.refl _ _).alloc (Nat.le_refl _) _
    have hb5:=hb2.trans (k5.mono hb2.size)
    have f5_5:X5.ownsRow W0.heap.size 128 6 (.slice (some ⟨g5,0,none⟩) 1 1) 1 rootV:=by rw [← hX5,← hg5];exact owns_base o5 hb2.size
    have f1_5:=owns_later f1_2 k5
    have f3_5:=(k5.block _ (lt3 f3_2)).trans f3_2
    rw [hg5,hX5]
    clear hg5 hX5 k5 o5
    refine hK.out _ _ (hb5) (fun hHeld=>?_)
    (try simp only [Act.put,List.setIfInBounds_toArray,List.set_cons_zero,List.set_cons_succ])
    clear hK K
    refine wpAnyH_ready (rs:=[4]) (by kernel_rfl) (by simp) ?_
    refine (AllReadyH.cons (o:=OP.p49) rfl (fun K hK=>?_) AllReadyH.nil)
    refine wanted_step (by kernel_rfl) ?_
    refine wp_append_lies _ (.tmp 10) (.tmp 12) 79 rfl W0.heap.size 86 iT (.agg #[.int .i64 0,.string ⟨#[]⟩,.int .i64 0,.int .i64 0]) 4 40 Tryz.underlying79 hi0 hz0 hz1 hz2 rfl (by decide) v1 n (tokCs L) rfl f1_5 ⟨g3,0,none⟩ 1 1 (tokC (endT z)) rfl rfl (World.news_of_block (cs:=#[.int .i64 (-1),.string ⟨#[]⟩,.int .i64 z,.int .i64 z]) f3_5) (tok_one' _) (by decide) (by unfold maxLen;omega) (by omega) hb5.size _ rfl ?_
    intro g4 c4 X6 w6 hgrow hat hlt
    have hb6:=below_grown hb5 f1_5 hgrow
    have f5_6:=owns_grown f5_5 f1_5 (by decide) hgrow
    refine hK.out _ _ (hb6) (fun hHeld=>?_)
    (try simp only [Act.put,List.setIfInBounds_toArray,List.set_cons_zero,List.set_cons_succ])
    clear hK K
    obtain ⟨O,hM,hbe,hO⟩:=HE.out X6 g4 c4 g5 hb6 w6 f5_6
    refine wpAnyH_take (i:=6) (oi:=OP.p50) (v:=.agg #[.slice (some ⟨g4,0,none⟩) (n+1) c4,.int .i64 0,.slice none 0 0,.slice (some ⟨g5,0,none⟩) 1 1]) rfl (by kernel_rfl) (by kernel_rfl) (by kernel_rfl) (fun _ _ _ h=>h) (Or.inl ⟨by rfl,fun X hX=>by kernel_rfl⟩) hHeld ?_
    (try simp only [Act.put,List.setIfInBounds_toArray,List.set_cons_zero,List.set_cons_succ])
    refine wpAnyH_ready (rs:=[7]) (by kernel_rfl) (by simp) ?_
    refine (AllReadyH.cons (o:=OP.p51) rfl (fun K hK=>?_) AllReadyH.nil)
    refine wanted_step (by kernel_rfl) ?_
    go_simp
    refine hK.out _ _ (hb6.alloc hb6.size _) (fun hHeld=>?_)
    (try simp only [Act.put,List.setIfInBounds_toArray,List.set_cons_zero,List.set_cons_succ])
    clear hK K
    refine wpAnyH_take (i:=8) (oi:=OP.p52) (v:=ptr X6.heap.size) rfl (by kernel_rfl) (by kernel_rfl) (by kernel_rfl) (fun _ _ _ h=>h) (Or.inl ⟨by rfl,fun X hX=>rfl⟩) hHeld ?_
    (try simp only [Act.put,List.setIfInBounds_toArray,List.set_cons_zero,List.set_cons_succ])
    refine wpAnyH_done (by kernel_rfl) ?_ _
    generalize X6.alloc (.cells #[.slice (some ⟨g4,0,none⟩) (n+1) c4,.int .i64 0,.slice none 0 0,.slice (some ⟨g5,0,none⟩) 1 1] 123)=Z at hM hbe ⊢
    generalize X6.heap.size=d at hM ⊢
    clear hHeld
    go_wp2_with fail
    go_ret
    exact ⟨_,_,O,rfl,hM,hbe,hO⟩
  ·refine wanted_step (by kernel_rfl) ?_
   go_simp
   have o7:=owns_root X1
   obtain ⟨g5,hg7⟩:∃ g,X1.heap.size=g:=⟨_,rfl⟩
   obtain ⟨X7,hX7⟩:∃ Y,X1.alloc (.cells #[.string ⟨#[]⟩,.string ⟨#[]⟩,.int .i64 0,.int .i64 0,.slice none 0 0,.int .i64 0] 128)=Y:=⟨_,rfl⟩
   have k7:Below X1.heap.size X1 X7:=by rw [← hX7];exact (Below.refl _ _).alloc (Nat.le_refl _) _
   have hb7:=hb1.trans (k7.mono hb1.size)
   have f5_7:X7.ownsRow W0.heap.size 128 6 (.slice (some ⟨g5,0,none⟩) 1 1) 1 rootV:=by rw [← hX7,← hg7];exact owns_base o7 hb1.size
   have f1_7:=owns_later w1 k7
   rw [hg7,hX7]
   clear hg7 hX7 k7 o7
   refine hK.out _ _ (hb7) (fun hHeld=>?_)
   (try simp only [Act.put,List.setIfInBounds_toArray,List.set_cons_zero,List.set_cons_succ])
   clear hK K
   refine wpAnyH_ready (rs:=[3]) (by kernel_rfl) (by simp) ?_
   refine (AllReadyH.cons (o:=OP.p47) rfl (fun K hK=>?_) AllReadyH.nil)
   refine wanted_step (by kernel_rfl) ?_
   go_simp
   obtain ⟨g3,hg8⟩:∃ g,X7.heap.size=g:=⟨_,rfl⟩
   obtain ⟨X8,hX8⟩:∃ Y,X7.alloc (.cells #[.int .i64 (-1),.string ⟨#[]⟩,.int .i64 z,.int .i64 z] 86)=Y:=⟨_,rfl⟩
   have f3_8:X8.heap[g3]?=some (.cells #[.int .i64 (-1),.string ⟨#[]⟩,.int .i64 z,.int .i64 z] 86 (0,0)):=by rw [← hX8,← hg8];exact heap_new _ _
   have k8:Below X7.heap.size X7 X8:=by rw [← hX8];exact (Below.refl _ _).alloc (Nat.le_refl _) _
   have hb8:=hb7.trans (k8.mono hb7.size)
   have f1_8:=owns_later f1_7 k8
   have f5_8:=owns_later f5_7 k8
   rw [hg8,hX8]
   clear hg8 hX8 k8
   refine hK.out _ _ (hb8) (fun hHeld=>?_)
   (try simp only [Act.put,List.setIfInBounds_toArray,List.set_cons_zero,List.set_cons_succ])
   clear hK K
   refine wpAnyH_ready (rs:=[4]) (by kernel_rfl) (by simp) ?_
   refine (AllReadyH.cons (o:=OP.p49) rfl (fun K hK=>?_) AllReadyH.nil)
   refine wanted_step (by kernel_rfl) ?_
   refine wp_append_lies _ (.tmp 10) (.tmp 12) 79 rfl W0.heap.size 86 iT (.agg #[.int .i64 0,.string ⟨#[]⟩,.int .i64 0,.int .i64 0]) 4 40 Tryz.underlying79 hi0 hz0 hz1 hz2 rfl (by decide) v1 n (tokCs L) rfl f1_8 ⟨g3,0,none⟩ 1 1 (tokC (endT z)) rfl rfl (World.news_of_block (cs:=#[.int .i64 (-1),.string ⟨#[]⟩,.int .i64 z,.int .i64 z]) f3_8) (tok_one' _) (by decide) (by unfold maxLen;omega) (by omega) hb8.size _ rfl ?_
   intro g4 c4 X9 w9 hgrow hat hlt
   have hb9:=below_grown hb8 f1_8 hgrow
   have f5_9:=owns_grown f5_8 f1_8 (by decide) hgrow
   refine hK.out _ _ (hb9) (fun hHeld=>?_)
   (try simp only [Act.put,List.setIfInBounds_toArray,List.set_cons_zero,List.set_cons_succ])
   clear hK K
   obtain ⟨O,hM,hbe,hO⟩:=HE.out X9 g4 c4 g5 hb9 w9 f5_9
   refine wpAnyH_take (i:=6) (oi:=OP.p50) (v:=.agg #[.slice (some ⟨g4,0,none⟩) (n+1) c4,.int .i64 0,.slice none 0 0,.slice (some ⟨g5,0,none⟩) 1 1]) rfl (by kernel_rfl) (by kernel_rfl) (by kernel_rfl) (fun _ _ _ h=>h) (Or.inl ⟨by rfl,fun X hX=>by kernel_rfl⟩) hHeld ?_
   (try simp only [Act.put,List.setIfInBounds_toArray,List.set_cons_zero,List.set_cons_succ])
   refine wpAnyH_ready (rs:=[7]) (by kernel_rfl) (by simp) ?_
   refine (AllReadyH.cons (o:=OP.p51) rfl (fun K hK=>?_) AllReadyH.nil)
   refine wanted_step (by kernel_rfl) ?_
   go_simp
   refine hK.out _ _ (hb9.alloc hb9.size _) (fun hHeld=>?_)
   (try simp only [Act.put,List.setIfInBounds_toArray,List.set_cons_zero,List.set_cons_succ])
   clear hK K
   refine wpAnyH_take (i:=8) (oi:=OP.p52) (v:=ptr X9.heap.size) rfl (by kernel_rfl) (by kernel_rfl) (by kernel_rfl) (fun _ _ _ h=>h) (Or.inl ⟨by rfl,fun X hX=>rfl⟩) hHeld ?_
   (try simp only [Act.put,List.setIfInBounds_toArray,List.set_cons_zero,List.set_cons_succ])
   refine wpAnyH_done (by kernel_rfl) ?_ _
   generalize X9.alloc (.cells #[.slice (some ⟨g4,0,none⟩) (n+1) c4,.int .i64 0,.slice none 0 0,.slice (some ⟨g5,0,none⟩) 1 1] 123)=Z at hM hbe ⊢
   generalize X9.heap.size=d at hM ⊢
   clear hHeld
   go_wp2_with fail
   go_ret
   exact ⟨_,_,O,rfl,hM,hbe,hO⟩
 ·refine wanted_step (by kernel_rfl) ?_
  go_simp
  obtain ⟨g3,hg10⟩:∃ g,V.heap.size=g:=⟨_,rfl⟩
  obtain ⟨X10,hX10⟩:∃ Y,V.alloc (.cells #[.int .i64 (-1),.string ⟨#[]⟩,.int .i64 z,.int .i64 z] 86)=Y:=⟨_,rfl⟩
  have f3_10:X10.heap[g3]?=some (.cells #[.int .i64 (-1),.string ⟨#[]⟩,.int .i64 z,.int .i64 z] 86 (0,0)):=by rw [← hX10,← hg10];exact heap_new _ _
  have k10:Below V.heap.size V X10:=by rw [← hX10];exact (Below.refl _ _).alloc (Nat.le_refl _) _
  have hb10:=HB0.out.trans (k10.mono HB0.out.size)
  rw [hg10,hX10]
  clear hg10 hX10 k10
  refine hK.out _ _ (hb10) (fun hHeld=>?_)
  (try simp only [Act.put,List.setIfInBounds_toArray,List.set_cons_zero,List.set_cons_succ])
  clear hK K
  refine wpAnyH_ready (rs:=[1,5]) (by kernel_rfl) (by simp) ?_
  refine (AllReadyH.cons (o:=OP.p46) rfl (fun K hK=>?_) (AllReadyH.cons (o:=OP.p48) rfl (fun K hK=>?_) AllReadyH.nil))
  ·refine wanted_step (by kernel_rfl) ?_
   go_simp
   go_at_call 48
   refine (HC.out _ hb10).mono ?_
   rintro e X11 ⟨v1,rfl,w11,k11⟩
   have hb11:=hb10.trans (k11.mono hb10.size)
   have f3_11:=(k11.block _ (lt3 f3_10)).trans f3_10
   dsimp only
   refine hK.out _ _ (hb11) (fun hHeld=>?_)
   (try simp only [Act.put,List.setIfInBounds_toArray,List.set_cons_zero,List.set_cons_succ])
   clear hK K
   refine wpAnyH_ready (rs:=[4,5]) (by kernel_rfl) (by simp) ?_
   refine (AllReadyH.cons (o:=OP.p49) rfl (fun K hK=>?_) (AllReadyH.cons (o:=OP.p48) rfl (fun K hK=>?_) AllReadyH.nil))
   ·refine wanted_step (by kernel_rfl) ?_
    refine wp_append_lies _ (.tmp 10) (.tmp 12) 79 rfl W0.heap.size 86 iT (.agg #[.int .i64 0,.string ⟨#[]⟩,.int .i64 0,.int .i64 0]) 4 40 Tryz.underlying79 hi0 hz0 hz1 hz2 rfl (by decide) v1 n (tokCs L) rfl w11 ⟨g3,0,none⟩ 1 1 (tokC (endT z)) rfl rfl (World.news_of_block (cs:=#[.int .i64 (-1),.string ⟨#[]⟩,.int .i64 z,.int .i64 z]) f3_11) (tok_one' _) (by decide) (by unfold maxLen;omega) (by omega) hb11.size _ rfl ?_
    intro g4 c4 X12 w12 hgrow hat hlt
    have hb12:=below_grown hb11 w11 hgrow
    refine hK.out _ _ (hb12) (fun hHeld=>?_)
    (try simp only [Act.put,List.setIfInBounds_toArray,List.set_cons_zero,List.set_cons_succ])
    clear hK K
    refine wpAnyH_ready (rs:=[5]) (by kernel_rfl) (by simp) ?_
    refine (AllReadyH.cons (o:=OP.p48) rfl (fun K hK=>?_) AllReadyH.nil)
    refine wanted_step (by kernel_rfl) ?_
    go_simp
    have o13:=owns_root X12
    obtain ⟨g5,hg13⟩:∃ g,X12.heap.size=g:=⟨_,rfl⟩
    obtain ⟨X13,hX13⟩:∃ Y,X12.alloc (.cells #[.string ⟨#[]⟩,.string ⟨#[]⟩,.int .i64 0,.int .i64 0,.slice none 0 0,.int .i64 0] 128)=Y:=⟨_,rfl⟩
    have k13:Below X12.heap.size X12 X13:=by rw [← hX13];exact (Below.refl _ _).alloc (Nat.le_refl _) _
    have hb13:=hb12.trans (k13.mono hb12.size)
    have f5_13:X13.ownsRow W0.heap.size 128 6 (.slice (some ⟨g5,0,none⟩) 1 1) 1 rootV:=by rw [← hX13,← hg13];exact owns_base o13 hb12.size
    have f4_13:=owns_later w12 k13
    rw [hg13,hX13]
    clear hg13 hX13 k13 o13
    refine hK.out _ _ (hb13) (fun hHeld=>?_)
    (try simp only [Act.put,List.setIfInBounds_toArray,List.set_cons_zero,List.set_cons_succ])
    clear hK K
    obtain ⟨O,hM,hbe,hO⟩:=HE.out X13 g4 c4 g5 hb13 f4_13 f5_13
    refine wpAnyH_take (i:=6) (oi:=OP.p50) (v:=.agg #[.slice (some ⟨g4,0,none⟩) (n+1) c4,.int .i64 0,.slice none 0 0,.slice (some ⟨g5,0,none⟩) 1 1]) rfl (by kernel_rfl) (by kernel_rfl) (by kernel_rfl) (fun _ _ _ h=>h) (Or.inl ⟨by rfl,fun X hX=>by kernel_rfl⟩) hHeld ?_
    (try simp only [Act.put,List.setIfInBounds_toArray,List.set_cons_zero,List.set_cons_succ])
    refine wpAnyH_ready (rs:=[7]) (by kernel_rfl) (by simp) ?_
    refine (AllReadyH.cons (o:=OP.p51) rfl (fun K hK=>?_) AllReadyH.nil)
    refine wanted_step (by kernel_rfl) ?_
    go_simp
    refine hK.out _ _ (hb13.alloc hb13.size _) (fun hHeld=>?_)
    (try simp only [Act.put,List.setIfInBounds_toArray,List.set_cons_zero,List.set_cons_succ])
    clear hK K
    refine wpAnyH_take (i:=8) (oi:=OP.p52) (v:=ptr X13.heap.size) rfl (by kernel_rfl) (by kernel_rfl) (by kernel_rfl) (fun _ _ _ h=>h) (Or.inl ⟨by rfl,fun X hX=>rfl⟩) hHeld ?_
    (try simp only [Act.put,List.setIfInBounds_toArray,List.set_cons_zero,List.set_cons_succ])
    refine wpAnyH_done (by kernel_rfl) ?_ _
    generalize X13.alloc (.cells #[.slice (some ⟨g4,0,none⟩) (n+1) c4,.int .i64 0,.slice none 0 0,.slice (some ⟨g5,0,none⟩) 1 1] 123)=Z at hM hbe ⊢
    generalize X13.heap.size=d at hM ⊢
    clear hHeld
    go_wp2_with fail
    go_ret
    exact ⟨_,_,O,rfl,hM,hbe,hO⟩
   ·refine wanted_step (by kernel_rfl) ?_
    go_simp
    have o14:=owns_root X11
    obtain ⟨g5,hg14⟩:∃ g,X11.heap.size=g:=⟨_,rfl⟩
    obtain ⟨X14,hX14⟩:∃ Y,X11.alloc (.cells #[.string ⟨#[]⟩,.string ⟨#[]⟩,.int .i64 0,.int .i64 0,.slice none 0 0,.int .i64 0] 128)=Y:=⟨_,rfl⟩
    have k14:Below X11.heap.size X11 X14:=by rw [← hX14];exact (Below.refl _ _).alloc (Nat.le_refl _) _
    have hb14:=hb11.trans (k14.mono hb11.size)
    have f5_14:X14.ownsRow W0.heap.size 128 6 (.slice (some ⟨g5,0,none⟩) 1 1) 1 rootV:=by rw [← hX14,← hg14];exact owns_base o14 hb11.size
    have f1_14:=owns_later w11 k14
    have f3_14:=(k14.block _ (lt3 f3_11)).trans f3_11
    rw [hg14,hX14]
    clear hg14 hX14 k14 o14
    refine hK.out _ _ (hb14) (fun hHeld=>?_)
    (try simp only [Act.put,List.setIfInBounds_toArray,List.set_cons_zero,List.set_cons_succ])
    clear hK K
    refine wpAnyH_ready (rs:=[4]) (by kernel_rfl) (by simp) ?_
    refine (AllReadyH.cons (o:=OP.p49) rfl (fun K hK=>?_) AllReadyH.nil)
    refine wanted_step (by kernel_rfl) ?_
    refine wp_append_lies _ (.tmp 10) (.tmp 12) 79 rfl W0.heap.size 86 iT (.agg #[.int .i64 0,.string ⟨#[]⟩,.int .i64 0,.int .i64 0]) 4 40 Tryz.underlying79 hi0 hz0 hz1 hz2 rfl (by decide) v1 n (tokCs L) rfl f1_14 ⟨g3,0,none⟩ 1 1 (tokC (endT z)) rfl rfl (World.news_of_block (cs:=#[.int .i64 (-1),.string ⟨#[]⟩,.int .i64 z,.int .i64 z]) f3_14) (tok_one' _) (by decide) (by unfold maxLen;omega) (by omega) hb14.size _ rfl ?_
    intro g4 c4 X15 w15 hgrow hat hlt
    have hb15:=below_grown hb14 f1_14 hgrow
    have f5_15:=owns_grown f5_14 f1_14 (by decide) hgrow
    refine hK.out _ _ (hb15) (fun hHeld=>?_)
    (try simp only [Act.put,List.setIfInBounds_toArray,List.set_cons_zero,List.set_cons_succ])
    clear hK K
    obtain ⟨O,hM,hbe,hO⟩:=HE.out X15 g4 c4 g5 hb15 w15 f5_15
    refine wpAnyH_take (i:=6) (oi:=OP.p50) (v:=.agg #[.slice (some ⟨g4,0,none⟩) (n+1) c4,.int .i64 0,.slice none 0 0,.slice (some ⟨g5,0,none⟩) 1 1]) rfl (by kernel_rfl) (by kernel_rfl) (by kernel_rfl) (fun _ _ _ h=>h) (Or.inl ⟨by rfl,fun X hX=>by kernel_rfl⟩) hHeld ?_
    (try simp only [Act.put,List.setIfInBounds_toArray,List.set_cons_zero,List.set_cons_succ])
    refine wpAnyH_ready (rs:=[7]) (by kernel_rfl) (by simp) ?_
    refine (AllReadyH.cons (o:=OP.p51) rfl (fun K hK=>?_) AllReadyH.nil)
    refine wanted_step (by kernel_rfl) ?_
    go_simp
    refine hK.out _ _ (hb15.alloc hb15.size _) (fun hHeld=>?_)
    (try simp only [Act.put,List.setIfInBounds_toArray,List.set_cons_zero,List.set_cons_succ])
    clear hK K
    refine wpAnyH_take (i:=8) (oi:=OP.p52) (v:=ptr X15.heap.size) rfl (by kernel_rfl) (by kernel_rfl) (by kernel_rfl) (fun _ _ _ h=>h) (Or.inl ⟨by rfl,fun X hX=>rfl⟩) hHeld ?_
    (try simp only [Act.put,List.setIfInBounds_toArray,List.set_cons_zero,List.set_cons_succ])
    refine wpAnyH_done (by kernel_rfl) ?_ _
    generalize X15.alloc (.cells #[.slice (some ⟨g4,0,none⟩) (n+1) c4,.int .i64 0,.slice none 0 0,.slice (some ⟨g5,0,none⟩) 1 1] 123)=Z at hM hbe ⊢
    generalize X15.heap.size=d at hM ⊢
    clear hHeld
    go_wp2_with fail
    go_ret
    exact ⟨_,_,O,rfl,hM,hbe,hO⟩
  ·refine wanted_step (by kernel_rfl) ?_
   go_simp
   have o16:=owns_root X10
   obtain ⟨g5,hg16⟩:∃ g,X10.heap.size=g:=⟨_,rfl⟩
   obtain ⟨X16,hX16⟩:∃ Y,X10.alloc (.cells #[.string ⟨#[]⟩,.string ⟨#[]⟩,.int .i64 0,.int .i64 0,.slice none 0 0,.int .i64 0] 128)=Y:=⟨_,rfl⟩
   have k16:Below X10.heap.size X10 X16:=by rw [← hX16];exact (Below.refl _ _).alloc (Nat.le_refl _) _
   have hb16:=hb10.trans (k16.mono hb10.size)
   have f5_16:X16.ownsRow W0.heap.size 128 6 (.slice (some ⟨g5,0,none⟩) 1 1) 1 rootV:=by rw [← hX16,← hg16];exact owns_base o16 hb10.size
   have f3_16:=(k16.block _ (lt3 f3_10)).trans f3_10
   rw [hg16,hX16]
   clear hg16 hX16 k16 o16
   refine hK.out _ _ (hb16) (fun hHeld=>?_)
   (try simp only [Act.put,List.setIfInBounds_toArray,List.set_cons_zero,List.set_cons_succ])
   clear hK K
   refine wpAnyH_ready (rs:=[1]) (by kernel_rfl) (by simp) ?_
   refine (AllReadyH.cons (o:=OP.p46) rfl (fun K hK=>?_) AllReadyH.nil)
   refine wanted_step (by kernel_rfl) ?_
   go_simp
   go_at_call 48
   refine (HC.out _ hb16).mono ?_
   rintro e X17 ⟨v1,rfl,w17,k17⟩
   have hb17:=hb16.trans (k17.mono hb16.size)
   have f3_17:=(k17.block _ (lt3 f3_16)).trans f3_16
   have f5_17:=owns_later f5_16 k17
   dsimp only
   refine hK.out _ _ (hb17) (fun hHeld=>?_)
   (try simp only [Act.put,List.setIfInBounds_toArray,List.set_cons_zero,List.set_cons_succ])
   clear hK K
   refine wpAnyH_ready (rs:=[4]) (by kernel_rfl) (by simp) ?_
   refine (AllReadyH.cons (o:=OP.p49) rfl (fun K hK=>?_) AllReadyH.nil)
   refine wanted_step (by kernel_rfl) ?_
   refine wp_append_lies _ (.tmp 10) (.tmp 12) 79 rfl W0.heap.size 86 iT (.agg #[.int .i64 0,.string ⟨#[]⟩,.int .i64 0,.int .i64 0]) 4 40 Tryz.underlying79 hi0 hz0 hz1 hz2 rfl (by decide) v1 n (tokCs L) rfl w17 ⟨g3,0,none⟩ 1 1 (tokC (endT z)) rfl rfl (World.news_of_block (cs:=#[.int .i64 (-1),.string ⟨#[]⟩,.int .i64 z,.int .i64 z]) f3_17) (tok_one' _) (by decide) (by unfold maxLen;omega) (by omega) hb17.size _ rfl ?_
   intro g4 c4 X18 w18 hgrow hat hlt
   have hb18:=below_grown hb17 w17 hgrow
   have f5_18:=owns_grown f5_17 w17 (by decide) hgrow
   refine hK.out _ _ (hb18) (fun hHeld=>?_)
   (try simp only [Act.put,List.setIfInBounds_toArray,List.set_cons_zero,List.set_cons_succ])
   clear hK K
   obtain ⟨O,hM,hbe,hO⟩:=HE.out X18 g4 c4 g5 hb18 w18 f5_18
   refine wpAnyH_take (i:=6) (oi:=OP.p50) (v:=.agg #[.slice (some ⟨g4,0,none⟩) (n+1) c4,.int .i64 0,.slice none 0 0,.slice (some ⟨g5,0,none⟩) 1 1]) rfl (by kernel_rfl) (by kernel_rfl) (by kernel_rfl) (fun _ _ _ h=>h) (Or.inl ⟨by rfl,fun X hX=>by kernel_rfl⟩) hHeld ?_
   (try simp only [Act.put,List.setIfInBounds_toArray,List.set_cons_zero,List.set_cons_succ])
   refine wpAnyH_ready (rs:=[7]) (by kernel_rfl) (by simp) ?_
   refine (AllReadyH.cons (o:=OP.p51) rfl (fun K hK=>?_) AllReadyH.nil)
   refine wanted_step (by kernel_rfl) ?_
   go_simp
   refine hK.out _ _ (hb18.alloc hb18.size _) (fun hHeld=>?_)
   (try simp only [Act.put,List.setIfInBounds_toArray,List.set_cons_zero,List.set_cons_succ])
   clear hK K
   refine wpAnyH_take (i:=8) (oi:=OP.p52) (v:=ptr X18.heap.size) rfl (by kernel_rfl) (by kernel_rfl) (by kernel_rfl) (fun _ _ _ h=>h) (Or.inl ⟨by rfl,fun X hX=>rfl⟩) hHeld ?_
   (try simp only [Act.put,List.setIfInBounds_toArray,List.set_cons_zero,List.set_cons_succ])
   refine wpAnyH_done (by kernel_rfl) ?_ _
   generalize X18.alloc (.cells #[.slice (some ⟨g4,0,none⟩) (n+1) c4,.int .i64 0,.slice none 0 0,.slice (some ⟨g5,0,none⟩) 1 1] 123)=Z at hM hbe ⊢
   generalize X18.heap.size=d at hM ⊢
   clear hHeld
   go_wp2_with fail
   go_ret
   exact ⟨_,_,O,rfl,hM,hbe,hO⟩
 ·refine wanted_step (by kernel_rfl) ?_
  go_simp
  have o19:=owns_root V
  obtain ⟨g5,hg19⟩:∃ g,V.heap.size=g:=⟨_,rfl⟩
  obtain ⟨X19,hX19⟩:∃ Y,V.alloc (.cells #[.string ⟨#[]⟩,.string ⟨#[]⟩,.int .i64 0,.int .i64 0,.slice none 0 0,.int .i64 0] 128)=Y:=⟨_,rfl⟩
  have k19:Below V.heap.size V X19:=by rw [← hX19];exact (Below.refl _ _).alloc (Nat.le_refl _) _
  have hb19:=HB0.out.trans (k19.mono HB0.out.size)
  have f5_19:X19.ownsRow W0.heap.size 128 6 (.slice (some ⟨g5,0,none⟩) 1 1) 1 rootV:=by rw [← hX19,← hg19];exact owns_base o19 HB0.out.size
  rw [hg19,hX19]
  clear hg19 hX19 k19 o19
  refine hK.out _ _ (hb19) (fun hHeld=>?_)
  (try simp only [Act.put,List.setIfInBounds_toArray,List.set_cons_zero,List.set_cons_succ])
  clear hK K
  refine wpAnyH_ready (rs:=[1,3]) (by kernel_rfl) (by simp) ?_
  refine (AllReadyH.cons (o:=OP.p46) rfl (fun K hK=>?_) (AllReadyH.cons (o:=OP.p47) rfl (fun K hK=>?_) AllReadyH.nil))
  ·refine wanted_step (by kernel_rfl) ?_
   go_simp
   go_at_call 48
   refine (HC.out _ hb19).mono ?_
   rintro e X20 ⟨v1,rfl,w20,k20⟩
   have hb20:=hb19.trans (k20.mono hb19.size)
   have f5_20:=owns_later f5_19 k20
   dsimp only
   refine hK.out _ _ (hb20) (fun hHeld=>?_)
   (try simp only [Act.put,List.setIfInBounds_toArray,List.set_cons_zero,List.set_cons_succ])
   clear hK K
   refine wpAnyH_ready (rs:=[3]) (by kernel_rfl) (by simp) ?_
   refine (AllReadyH.cons (o:=OP.p47) rfl (fun K hK=>?_) AllReadyH.nil)
   refine wanted_step (by kernel_rfl) ?_
   go_simp
   obtain ⟨g3,hg21⟩:∃ g,X20.heap.size=g:=⟨_,rfl⟩
   obtain ⟨X21,hX21⟩:∃ Y,X20.alloc (.cells #[.int .i64 (-1),.string ⟨#[]⟩,.int .i64 z,.int .i64 z] 86)=Y:=⟨_,rfl⟩
   have f3_21:X21.heap[g3]?=some (.cells #[.int .i64 (-1),.string ⟨#[]⟩,.int .i64 z,.int .i64 z] 86 (0,0)):=by rw [← hX21,← hg21];exact heap_new _ _
   have k21:Below X20.heap.size X20 X21:=by rw [← hX21];exact (Below.refl _ _).alloc (Nat.le_refl _) _
   have hb21:=hb20.trans (k21.mono hb20.size)
   have f1_21:=owns_later w20 k21
   have f5_21:=owns_later f5_20 k21
   rw [hg21,hX21]
   clear hg21 hX21 k21
   refine hK.out _ _ (hb21) (fun hHeld=>?_)
   (try simp only [Act.put,List.setIfInBounds_toArray,List.set_cons_zero,List.set_cons_succ])
   clear hK K
   refine wpAnyH_ready (rs:=[4]) (by kernel_rfl) (by simp) ?_
   refine (AllReadyH.cons (o:=OP.p49) rfl (fun K hK=>?_) AllReadyH.nil)
   refine wanted_step (by kernel_rfl) ?_
   refine wp_append_lies _ (.tmp 10) (.tmp 12) 79 rfl W0.heap.size 86 iT (.agg #[.int .i64 0,.string ⟨#[]⟩,.int .i64 0,.int .i64 0]) 4 40 Tryz.underlying79 hi0 hz0 hz1 hz2 rfl (by decide) v1 n (tokCs L) rfl f1_21 ⟨g3,0,none⟩ 1 1 (tokC (endT z)) rfl rfl (World.news_of_block (cs:=#[.int .i64 (-1),.string ⟨#[]⟩,.int .i64 z,.int .i64 z]) f3_21) (tok_one' _) (by decide) (by unfold maxLen;omega) (by omega) hb21.size _ rfl ?_
   intro g4 c4 X22 w22 hgrow hat hlt
   have hb22:=below_grown hb21 f1_21 hgrow
   have f5_22:=owns_grown f5_21 f1_21 (by decide) hgrow
   refine hK.out _ _ (hb22) (fun hHeld=>?_)
   (try simp only [Act.put,List.setIfInBounds_toArray,List.set_cons_zero,List.set_cons_succ])
   clear hK K
   obtain ⟨O,hM,hbe,hO⟩:=HE.out X22 g4 c4 g5 hb22 w22 f5_22
   refine wpAnyH_take (i:=6) (oi:=OP.p50) (v:=.agg #[.slice (some ⟨g4,0,none⟩) (n+1) c4,.int .i64 0,.slice none 0 0,.slice (some ⟨g5,0,none⟩) 1 1]) rfl (by kernel_rfl) (by kernel_rfl) (by kernel_rfl) (fun _ _ _ h=>h) (Or.inl ⟨by rfl,fun X hX=>by kernel_rfl⟩) hHeld ?_
   (try simp only [Act.put,List.setIfInBounds_toArray,List.set_cons_zero,List.set_cons_succ])
   refine wpAnyH_ready (rs:=[7]) (by kernel_rfl) (by simp) ?_
   refine (AllReadyH.cons (o:=OP.p51) rfl (fun K hK=>?_) AllReadyH.nil)
   refine wanted_step (by kernel_rfl) ?_
   go_simp
   refine hK.out _ _ (hb22.alloc hb22.size _) (fun hHeld=>?_)
   (try simp only [Act.put,List.setIfInBounds_toArray,List.set_cons_zero,List.set_cons_succ])
   clear hK K
   refine wpAnyH_take (i:=8) (oi:=OP.p52) (v:=ptr X22.heap.size) rfl (by kernel_rfl) (by kernel_rfl) (by kernel_rfl) (fun _ _ _ h=>h) (Or.inl ⟨by rfl,fun X hX=>rfl⟩) hHeld ?_
   (try simp only [Act.put,List.setIfInBounds_toArray,List.set_cons_zero,List.set_cons_succ])
   refine wpAnyH_done (by kernel_rfl) ?_ _
   generalize X22.alloc (.cells #[.slice (some ⟨g4,0,none⟩) (n+1) c4,.int .i64 0,.slice none 0 0,.slice (some ⟨g5,0,none⟩) 1 1] 123)=Z at hM hbe ⊢
   generalize X22.heap.size=d at hM ⊢
   clear hHeld
   go_wp2_with fail
   go_ret
   exact ⟨_,_,O,rfl,hM,hbe,hO⟩
  ·refine wanted_step (by kernel_rfl) ?_
   go_simp
   obtain ⟨g3,hg23⟩:∃ g,X19.heap.size=g:=⟨_,rfl⟩
   obtain ⟨X23,hX23⟩:∃ Y,X19.alloc (.cells #[.int .i64 (-1),.string ⟨#[]⟩,.int .i64 z,.int .i64 z] 86)=Y:=⟨_,rfl⟩
   have f3_23:X23.heap[g3]?=some (.cells #[.int .i64 (-1),.string ⟨#[]⟩,.int .i64 z,.int .i64 z] 86 (0,0)):=by rw [← hX23,← hg23];exact heap_new _ _
   have k23:Below X19.heap.size X19 X23:=by rw [← hX23];exact (Below.refl _ _).alloc (Nat.le_refl _) _
   have hb23:=hb19.trans (k23.mono hb19.size)
   have f5_23:=owns_later f5_19 k23
   rw [hg23,hX23]
   clear hg23 hX23 k23
   refine hK.out _ _ (hb23) (fun hHeld=>?_)
   (try simp only [Act.put,List.setIfInBounds_toArray,List.set_cons_zero,List.set_cons_succ])
   clear hK K
   refine wpAnyH_ready (rs:=[1]) (by kernel_rfl) (by simp) ?_
   refine (AllReadyH.cons (o:=OP.p46) rfl (fun K hK=>?_) AllReadyH.nil)
   refine wanted_step (by kernel_rfl) ?_
   go_simp
   go_at_call 48
   refine (HC.out _ hb23).mono ?_
   rintro e X24 ⟨v1,rfl,w24,k24⟩
   have hb24:=hb23.trans (k24.mono hb23.size)
   have f3_24:=(k24.block _ (lt3 f3_23)).trans f3_23
   have f5_24:=owns_later f5_23 k24
   dsimp only
   refine hK.out _ _ (hb24) (fun hHeld=>?_)
   (try simp only [Act.put,List.setIfInBounds_toArray,List.set_cons_zero,List.set_cons_succ])
   clear hK K
   refine wpAnyH_ready (rs:=[4]) (by kernel_rfl) (by simp) ?_
   refine (AllReadyH.cons (o:=OP.p49) rfl (fun K hK=>?_) AllReadyH.nil)
   refine wanted_step (by kernel_rfl) ?_
   refine wp_append_lies _ (.tmp 10) (.tmp 12) 79 rfl W0.heap.size 86 iT (.agg #[.int .i64 0,.string ⟨#[]⟩,.int .i64 0,.int .i64 0]) 4 40 Tryz.underlying79 hi0 hz0 hz1 hz2 rfl (by decide) v1 n (tokCs L) rfl w24 ⟨g3,0,none⟩ 1 1 (tokC (endT z)) rfl rfl (World.news_of_block (cs:=#[.int .i64 (-1),.string ⟨#[]⟩,.int .i64 z,.int .i64 z]) f3_24) (tok_one' _) (by decide) (by unfold maxLen;omega) (by omega) hb24.size _ rfl ?_
   intro g4 c4 X25 w25 hgrow hat hlt
   have hb25:=below_grown hb24 w24 hgrow
   have f5_25:=owns_grown f5_24 w24 (by decide) hgrow
   refine hK.out _ _ (hb25) (fun hHeld=>?_)
   (try simp only [Act.put,List.setIfInBounds_toArray,List.set_cons_zero,List.set_cons_succ])
   clear hK K
   obtain ⟨O,hM,hbe,hO⟩:=HE.out X25 g4 c4 g5 hb25 w25 f5_25
   refine wpAnyH_take (i:=6) (oi:=OP.p50) (v:=.agg #[.slice (some ⟨g4,0,none⟩) (n+1) c4,.int .i64 0,.slice none 0 0,.slice (some ⟨g5,0,none⟩) 1 1]) rfl (by kernel_rfl) (by kernel_rfl) (by kernel_rfl) (fun _ _ _ h=>h) (Or.inl ⟨by rfl,fun X hX=>by kernel_rfl⟩) hHeld ?_
   (try simp only [Act.put,List.setIfInBounds_toArray,List.set_cons_zero,List.set_cons_succ])
   refine wpAnyH_ready (rs:=[7]) (by kernel_rfl) (by simp) ?_
   refine (AllReadyH.cons (o:=OP.p51) rfl (fun K hK=>?_) AllReadyH.nil)
   refine wanted_step (by kernel_rfl) ?_
   go_simp
   refine hK.out _ _ (hb25.alloc hb25.size _) (fun hHeld=>?_)
   (try simp only [Act.put,List.setIfInBounds_toArray,List.set_cons_zero,List.set_cons_succ])
   clear hK K
   refine wpAnyH_take (i:=8) (oi:=OP.p52) (v:=ptr X25.heap.size) rfl (by kernel_rfl) (by kernel_rfl) (by kernel_rfl) (fun _ _ _ h=>h) (Or.inl ⟨by rfl,fun X hX=>rfl⟩) hHeld ?_
   (try simp only [Act.put,List.setIfInBounds_toArray,List.set_cons_zero,List.set_cons_succ])
   refine wpAnyH_done (by kernel_rfl) ?_ _
   generalize X25.alloc (.cells #[.slice (some ⟨g4,0,none⟩) (n+1) c4,.int .i64 0,.slice none 0 0,.slice (some ⟨g5,0,none⟩) 1 1] 123)=Z at hM hbe ⊢
   generalize X25.heap.size=d at hM ⊢
   clear hHeld
   go_wp2_with fail
   go_ret
   exact ⟨_,_,O,rfl,hM,hbe,hO⟩
end Go.Proofs.YtojoahlpgmnbnaaGreatDoor.K
namespace Go.Proofs.YtojoahlpgmnbnaaGreatDoor.J
open Go.RowKit
open Go.Lib hiding intOf
open U S T
theorem Pt.ind {C:Pt→Prop} (h:∀ k t f e ks,(∀ p∈ks,C p)→C (.mk k t f e ks)):∀ p,C p
 | .mk k t f e ks=>h k t f e ks (go ks)
where
 go:∀ (l:List Pt),∀ p∈l,C p
  | [],p,hp=>absurd hp (List.not_mem_nil)
  | x :: r,p,hp=>by
   rcases List.mem_cons.1 hp with h1|h1
   ·rw [h1];exact Pt.ind h x
   ·exact go r p h1
def arg (p:Pt) (lv:Value):Value:=.agg (five p lv).toArray
mutual
def wtP:Pt→Nat
 | .mk k t _ _ ks=>1+t.length+k.length+wtL ks
def wtL:List Pt→Nat
 | []=>0
 | p :: r=>wtP p+wtL r
end
theorem wtP_pos (p:Pt):1≤wtP p:=by cases p;rw [wtP];omega
theorem wtL_length:∀ l:List Pt,l.length≤wtL l
 | []=>by simp
 | p :: r=>by have:=wtL_length r;have:=wtP_pos p;rw [wtL,List.length_cons];omega
theorem wtL_mem:∀ {l:List Pt} {p:Pt},p∈l→wtP p≤wtL l
 | x :: r,p,h=>by
  rw [wtL]
  rcases List.mem_cons.1 h with rfl|h
  ·omega
  ·have:=wtL_mem h;omega
theorem wtL_app:∀ (a b:List Pt),wtL (a++b)=wtL a+wtL b
 | [],b=>by simp [wtL]
 | x :: r,b=>by rw [List.cons_append,wtL,wtL,wtL_app r b];omega
theorem kids_below {W W':World} {R:Nat→Prop} {p:Pt} {lv:Value} (h:KidsIn W R p lv) (hb:Below W.heap.size W W'):KidsIn W' R p lv:=KidsIn.later (fun g _ hlt=>hb.block g hlt) (fun _ h=>h) p lv h
theorem parts_below {W W':World} {R:Nat→Prop} {l:List Pt} {xs:List Value} (h:PartsIn W R l xs) (hb:Below W.heap.size W W'):PartsIn W' R l xs:=PartsIn.later (fun g _ hlt=>hb.block g hlt) (fun _ h=>h) l xs h
theorem kids_form {W:World} {R:Nat→Prop} {k t:By} {f e:Int} {ks:List Pt} {lv:Value} (h:KidsIn W R (.mk k t f e ks) lv):∃ a c,lv=.slice a ks.length c:=by
 obtain ⟨a,c,rfl,_,_⟩:=h
 exact ⟨a,c,rfl⟩
theorem kids_row {W:World} {R:Nat→Prop} {k t:By} {f e:Int} {ks:List Pt} {a:Option Addr} {n c:Nat} (h:KidsIn W R (.mk k t f e ks) (.slice a n c)):n=ks.length∧ks.length≤c∧(ks=[]∨∃ g off xs,a=some ⟨g,off,none⟩∧R g∧CellsAt W g off xs∧PartsIn W R ks xs):=by
 obtain ⟨a',c',h1,h0,h2⟩:=h
 cases h1
 exact ⟨rfl,h0,h2⟩
theorem parts_get {W:World} {R:Nat→Prop}:∀ {l:List Pt} {xs:List Value} (i:Nat) (hi:i<l.length),PartsIn W R l xs→∃ lv,KidsIn W R l[i] lv∧∀ j u,(five l[i] lv)[j]?=some u→xs[i*5+j]?=some u
 | [],_,i,hi,_=>absurd hi (Nat.not_lt_zero _)
 | p :: r,xs,i,hi,h=>by
  obtain ⟨lv,rest,rfl,h2,h3⟩:=h
  have h5:=five_length p lv
  cases i with
  | zero =>
   refine ⟨lv,h2,fun j u hj=>?_⟩
   have hj:(five p lv)[j]?=some u:=hj
   have hlt:=(List.getElem?_eq_some_iff.1 hj).1
   rw [List.getElem?_append_left (by omega),Nat.zero_mul,Nat.zero_add];exact hj
  | succ i =>
   obtain ⟨lv',h6,h7⟩:=parts_get i (by simpa using hi) h3
   refine ⟨lv',h6,fun j u hj=>?_⟩
   rw [List.getElem?_append_right (by omega),h5,show (i+1)*5+j - 5=i*5+j by omega]
   exact h7 j u hj
structure KidAt (W:World) (R:Nat→Prop) (p:Pt) (g o:Nat) (k t:By) (f e:Int) (ks:List Pt) (a:Option Addr) (c:Nat):Prop where
 eq:p=.mk k t f e ks
 kids:KidsIn W R (.mk k t f e ks) (.slice a ks.length c)
 k0:W.cell? ⟨g,o,none⟩=some (.string (bstr k))
 k1:W.cell? ⟨g,o+1,none⟩=some (.string (bstr t))
 k2:W.cell? ⟨g,o+2,none⟩=some (.int .i64 f)
 k3:W.cell? ⟨g,o+3,none⟩=some (.int .i64 e)
 k4:W.cell? ⟨g,o+4,none⟩=some (.slice a ks.length c)
theorem kid_at {W:World} {R:Nat→Prop} {l:List Pt} {xs:List Value} {g off:Nat} (hp:PartsIn W R l xs) (hc:CellsAt W g off xs) (i:Nat) (hi:i<l.length):∃ k t f e ks a c,KidAt W R l[i] g (off+i*5) k t f e ks a c:=by
 obtain ⟨lv,h1,h2⟩:=parts_get i hi hp
 generalize l[i]=p at h1 h2
 obtain ⟨k,t,f,e,ks⟩:=p
 obtain ⟨a,c,rfl⟩:=kids_form h1
 have at':∀ j u,(five (.mk k t f e ks) (.slice a ks.length c))[j]?=some u→W.cell? ⟨g,off+i*5+j,none⟩=some u:=fun j u hj=>by
  have:=hc _ _ (h2 j u hj)
  rw [← Nat.add_assoc] at this
  exact this
 exact ⟨k,t,f,e,ks,a,c,rfl,h1,at' 0 _ rfl,at' 1 _ rfl,at' 2 _ rfl,at' 3 _ rfl,at' 4 _ rfl⟩
theorem KidAt.below {W W':World} {R:Nat→Prop} {p:Pt} {g o:Nat} {k t:By} {f e:Int} {ks:List Pt} {a:Option Addr} {c:Nat} (h:KidAt W R p g o k t f e ks a c) (hb:Below W.heap.size W W'):KidAt W' R p g o k t f e ks a c :=
 have cl:∀ {o:Nat} {v:Value},W.cell? ⟨g,o,none⟩=some v→W'.cell? ⟨g,o,none⟩=some v:=fun h=>(hb.cell (World.block_lt_of_cell? W _ h)).trans h
 ⟨h.eq,kids_below h.kids hb,cl h.k0,cl h.k1,cl h.k2,cl h.k3,cl h.k4⟩
theorem cells_five {W:World} {b:Nat} {v0 v1 v2 v3 v4:Value} {t:TypeId} (h:W.heap[b]?=some (.cells #[v0,v1,v2,v3,v4] t (0,0))) :
  (W.cell? ⟨b,0,none⟩=some v0∧W.cell? ⟨b,1,none⟩=some v1∧W.cell? ⟨b,2,none⟩=some v2∧W.cell? ⟨b,3,none⟩=some v3∧W.cell? ⟨b,4,none⟩=some v4)∧∀ j,W.frozen? ⟨b,j,none⟩=false :=
 ⟨⟨by simp [World.cell?,h],by simp [World.cell?,h],by simp [World.cell?,h],by simp [World.cell?,h],by simp [World.cell?,h]⟩,fun j=>by simp [World.frozen?,h]⟩
theorem heap_new (w:World) (o:Obj):(w.alloc o).heap[w.heap.size]?=some o:=heap_alloc_new w o
theorem new_block (w:World) (o:Obj):∃ w1,w.alloc o=w1∧w1.heap[w.heap.size]?=some o∧Below w.heap.size w w1∧w.heap.size<w1.heap.size :=
 ⟨_,rfl,heap_new w o,(Below.refl _ _).alloc (Nat.le_refl _) _,by simp⟩
end Go.Proofs.YtojoahlpgmnbnaaGreatDoor.J
namespace Go.Proofs.YtojoahlpgmnbnaaGreatDoor.K
open Go.Lib Go.Proofs.YtojoahlpgmnbnaaGreatDoor.U Go.Proofs.YtojoahlpgmnbnaaGreatDoor.S Go.Proofs.YtojoahlpgmnbnaaGreatDoor.T Go.Proofs.YtojoahlpgmnbnaaGreatDoor.J
def wO (o:Open):Nat:=1+o.k.length+o.t.length+wtL o.kids
def wOs:List Open→Nat
 | []=>0
 | o :: r=>wO o+wOs r
section
variable {M:Nat} {i:Nat} {R l:List Stp} {O O':List Open} {s1:St}
theorem wo_add (a:Open) (p:Pt) (f:Int):wO (a.add p f)=wO a+wtP p:=by
 show 1+a.k.length+a.t.length+wtL (a.kids++[p])=_
 rw [wtL_app,wtL,wtL];unfold wO;omega
theorem wo_close {o:Open} {e:Int} {p:Pt} (h:o.close e=some p):wtP p≤wO o:=by
 unfold Open.close at h
 split at h
 ·cases hk:o.kids with
  | nil=>rw [hk] at h;cases h
  | cons q r =>
   rw [hk] at h;cases h
   unfold wO;rw [hk,wtL];omega
 ·split at h
  ·cases h;rw [wtP];unfold wO;omega
  ·cases h;rw [wtP];unfold wO;omega
theorem wo_closeO {e:Int} (h:closeO e O=some O'):wOs O'≤wOs O:=by
 match O,h with
 | o :: a :: r,h =>
  unfold closeO at h
  dsimp only at h
  cases hc:o.close e with
  | none=>rw [hc] at h;cases h
  | some p =>
   rw [hc] at h;cases h
   have:=wo_close hc
   rw [wOs,wOs,wOs,wo_add];omega
theorem wo_settle {e s:Int}:∀ (r:List Open) (o:Open),settle e s o r=some O'→wOs O'≤wO o+wOs r
 | [],o,h=>by
  unfold settle at h
  split at h
  ·cases h
  ·cases h;rw [wOs,wOs];exact Nat.le_refl _
 | a :: r,o,h=>by
  unfold settle at h
  split at h
  ·have h1:=wo_settle r _ h
   rw [wo_add,wtP] at h1
   rw [wOs];unfold wO at h1 ⊢;omega
  ·cases h;rw [wOs,wOs];exact Nat.le_refl _
theorem wo_wrap {k:By} (h:wrapO k O=some O') (hk:k.length≤6):wOs O'≤wOs O+8:=by
 cases O with
 | nil=>cases h
 | cons a r =>
  unfold wrapO at h
  dsimp only at h
  cases hc:a.kids.getLast? with
  | none=>rw [hc] at h;cases h
  | some p =>
   rw [hc] at h;cases h
   have hd:a.kids=a.kids.dropLast++[p]:=by
    obtain ⟨ys,hy⟩:=List.getLast?_eq_some_iff.1 hc
    rw [hy];simp
   have hw:wtL a.kids=wtL a.kids.dropLast+wtP p:=by
    have h2:=congrArg wtL hd
    rw [wtL_app,wtL,wtL] at h2
    omega
   rw [wOs,wOs,wOs]
   unfold wO
   dsimp only
   rw [hw,wtL,wtL]
   simp only [List.length_nil]
   omega
theorem wo_text {t:By} (h:textO t O=some O') (ht:t.length≤M):wOs O'≤wOs O+M:=by
 cases O with
 | nil=>cases h
 | cons o r=>cases h;rw [wOs,wOs];unfold wO;dsimp only;omega
theorem wo_kind {t:By} (h:kindO t O=some O') (ht:t.length≤6):wOs O'≤wOs O+6:=by
 cases O with
 | nil=>cases h
 | cons o r=>cases h;rw [wOs,wOs];unfold wO;dsimp only;omega
theorem wo_opt {k j:Nat} {o:Option (List Open)} (hs:ofOpt k l o=.go s1) (ho:∀ O',o=some O'→wOs O'≤j):wOs s1.opn≤j:=by
 cases o with
 | none=>cases hs
 | some O'=>cases hs;exact ho O' rfl
end
variable {L:List TokP} {size M:Nat}
theorem wo_step (hM:∀ i,(tok L size i).t.length≤M) {s s1:St} (hs:stepS L size s=.go s1):wOs s1.opn≤wOs s.opn+(M+16):=by
 obtain ⟨i,todo,O⟩:=s
 cases todo with
 | nil=>cases hs
 | cons x R =>
  show wOs s1.opn≤wOs O+(M+16)
  have hop:∀ {kd:By} {l:List Stp},kd.length≤6→opened L size kd ⟨i,R,O⟩ l=.go s1→wOs s1.opn≤wOs O+(M+16):=fun hk h=>by
   cases h
   show wOs (_ :: O)≤_
   rw [wOs];unfold wO;dsimp only;rw [wtL];simp only [List.length_nil];omega
  have hpu:∀ {l:List Stp},pushed ⟨i,R,O⟩ l=.go s1→wOs s1.opn≤wOs O+(M+16):=fun h=>by cases h;exact Nat.le_add_right _ _
  have hvar:varDecl L size ⟨i,R,O⟩=.go s1→wOs s1.opn≤wOs O+(M+16):=hop (by decide)
  have hif:ifStmt L size ⟨i,R,O⟩=.go s1→wOs s1.opn≤wOs O+(M+16):=hop (by decide)
  have hbl:blockM L size ⟨i,R,O⟩=.go s1→wOs s1.opn≤wOs O+(M+16):=hop (by decide)
  have hex:exprM ⟨i,R,O⟩=.go s1→wOs s1.opn≤wOs O+(M+16):=hpu
  have htx:∀ {l:List Stp} {k:Nat},ofOpt k l (textO (tok L size i).t O)=.go s1→wOs s1.opn≤wOs O+(M+16):=fun h=>wo_opt h (fun O' hO=>by have:=wo_text hO (hM i);omega)
  have hkd:∀ {t:By} {l:List Stp} {k:Nat},t.length≤6→ofOpt k l (kindO t O)=.go s1→wOs s1.opn≤wOs O+(M+16):=fun ht h=>wo_opt h (fun O' hO=>by have:=wo_kind hO ht;omega)
  have hwr:∀ {t:By} {l:List Stp},t.length≤6→ofOpt i l (wrapO t O)=.go s1→wOs s1.opn≤wOs O+(M+16):=fun ht h=>wo_opt h (fun O' hO=>by have:=wo_wrap hO ht;omega)
  have hsame:∀ {k:Nat} {l:List Stp},(Res.go ⟨k,l,O⟩:Res)=.go s1→wOs s1.opn≤wOs O+(M+16):=fun h=>by cases h;exact Nat.le_add_right _ _
  change exec L size x ⟨i,R,O⟩=.go s1 at hs
  cases x with
  | word t=>simp only [exec] at hs;split at hs;exact hsame hs;cases hs
  | lines m=>simp only [exec] at hs;split at hs;exact hsame hs;exact hsame hs
  | more m=>simp only [exec] at hs;split at hs;exact hpu hs;exact hsame hs
  | commas m=>simp only [exec] at hs;split at hs;exact hsame hs;exact hpu hs
  | moreC m=>simp only [exec] at hs;split at hs;exact hpu hs;exact hsame hs
  | m k =>
   change execM L size k ⟨i,R,O⟩=.go s1 at hs
   cases k with
   | decl=>simp only [execM] at hs;(repeat' split at hs);exact hop (by decide) hs;exact hvar hs;exact hop (by decide) hs;cases hs
   | semis=>simp only [execM] at hs;exact hsame hs
   | noMore=>simp only [execM] at hs;split at hs;exact hsame hs;cases hs
   | name=>simp only [execM] at hs;split at hs;exact htx hs;cases hs
   | params=>exact hop (by decide) hs
   | result =>
    simp only [execM] at hs
    split at hs
    ·split at hs
     ·cases hs
     ·cases O with
      | nil=>cases hs;exact Nat.le_add_right _ _
      | cons a r =>
       cases hs
       show wOs (_ :: r)≤wOs (a :: r)+_
       rw [wOs,wOs,wo_add,wtP,wtL]
       have:kResult.length=6:=rfl
       simp only [List.length_nil]
       omega
    ·exact hop (by decide) hs
   | block=>exact hbl hs
   | fin =>
    simp only [execM,finM] at hs
    split at hs
    ·cases hs
    ·exact wo_opt hs (fun O' hO=>by have:=wo_closeO hO;omega)
   | field=>exact hop (by decide) hs
   | param=>exact hop (by decide) hs
   | typeOf=>simp only [execM] at hs;(repeat' split at hs);all_goals exact hop (by decide) hs
   | stmt=>simp only [execM] at hs;(repeat' split at hs);exact hvar hs;exact hop (by decide) hs;exact hif hs;exact hop (by decide) hs;exact hbl hs;exact hop (by decide) hs
   | returned=>simp only [execM] at hs;split at hs;exact hex hs;exact hsame hs
   | expr=>exact hex hs
   | assigned=>simp only [execM] at hs;(repeat' split at hs);exact hkd (by decide) hs;exact hkd (by decide) hs;exact hsame hs
   | otherwise=>simp only [execM] at hs;split at hs;exact hpu hs;exact hsame hs
   | pre=>simp only [execM] at hs;split at hs;exact hop (by decide) hs;exact hpu hs
   | between =>
    simp only [execM,betweenM] at hs
    split at hs
    ·cases hs
    ·split at hs
     ·cases hs
     ·rename_i O2 h2
      have h4:wOs O2≤wOs O:=by
       cases O with
       | nil=>cases h2
       | cons o r=>exact wo_settle r o h2
      split at hs
      ·exact wo_opt hs (fun O' hO=>by have:=wo_wrap hO (by decide);omega)
      ·cases hs;exact Nat.le_trans h4 (Nat.le_add_right _ _)
   | ifOrBlock=>simp only [execM] at hs;split at hs;exact hif hs;exact hbl hs
   | text=>simp only [execM] at hs;split at hs;exact htx hs;cases hs
   | behind=>simp only [execM] at hs;(repeat' split at hs);exact hwr (by decide) hs;exact hwr (by decide) hs;exact hsame hs
   | operand=>simp only [execM] at hs;(repeat' split at hs);all_goals exact hop (by decide) hs
   | called =>
    simp only [execM] at hs
    split at hs
    ·cases O with
     | nil=>cases hs
     | cons o r =>
      have h1:kNew.length=3:=rfl
      have h2:kMake.length=4:=rfl
      have h3:kCall.length=4:=rfl
      dsimp only at hs
      repeat' split at hs
      all_goals
       cases hs
       show wOs (_ :: r)≤wOs (o :: r)+_
       rw [wOs,wOs];unfold wO;simp only [List.length_nil];omega
    ·exact hsame hs
theorem wo_goes (hM:∀ i,(tok L size i).t.length≤M) {n:Nat} {s s1:St} (h:Goes L size n s s1):wOs s1.opn≤wOs s.opn+n*(M+16):=by
 induction h with
 | refl n s=>omega
 | step h1 _ ih =>
  have h2:=wo_step hM h1
  rw [Nat.add_mul,Nat.one_mul]
  omega
theorem wt_fate {right:Bool} {s:By} {p:Pt} (hs:s.length≤600) (h:fate (scanB right s)=.part p):wtP p≤100000000:=by
 have hr:=scan_rises right s
 have hn:(scanB right s).length≤s.length+1:=by
  have go:∀ (n:Nat) (l:By) (pos:Nat) (ended:Bool),(scanF right n l pos ended).length≤n:=by
   intro n
   induction n with
   | zero=>intro l pos ended;exact Nat.le_refl _
   | succ n ih =>
    intro l pos ended
    cases l with
    | nil=>simp only [scanF];split <;> simp
    | cons c r =>
     simp only [scanF]
     split
     ·simp only [List.length_cons];exact Nat.succ_le_succ (ih _ _ _)
     ·split
      ·exact Nat.le_succ_of_le (ih _ _ _)
      ·split
       ·exact Nat.le_succ_of_le (ih _ _ _)
       ·simp only [List.length_cons];exact Nat.succ_le_succ (ih _ _ _)
  exact go _ s 0 false
 have hM:∀ i,(tok (scanB right s) s.length i).t.length≤600:=by
  intro i
  have tx:∀ {L:List TokP} {a:Nat},Rises s a L→∀ t∈L,t.t.length≤s.length:=by
   intro L
   induction L with
   | nil=>intro a _ t h;cases h
   | cons u r ih =>
    intro a h t ht
    cases h with
    | cons hk hl hr =>
     rcases List.mem_cons.1 ht with rfl|ht
     ·rcases hk.text with ⟨_,h2,_⟩|⟨_,h2⟩
      ·rw [h2];exact Nat.zero_le _
      ·rw [h2,List.length_take,List.length_drop];omega
     ·exact ih hr t ht
  unfold tok
  cases h1:(scanB right s)[i]? with
  | none=>simp
  | some t =>
   have:=tx hr t (List.mem_of_getElem? h1)
   show t.t.length≤600
   omega
 have hc:=run_fate (size:=s.length) (scan_fine right s)
 rw [h] at hc
 obtain ⟨i,f,hg⟩:=hc
 have hw:=wo_goes hM hg
 have e1:wOs [root.add p f]=1+wtP p:=by
  rw [wOs,wOs,wo_add]
  show 1+0+0+wtL []+wtP p+0=_
  rw [wtL];omega
 have e2:wOs begun.opn=1:=by
  show wOs [root]=1
  rw [wOs,wOs];show 1+0+0+wtL []+0=1;rw [wtL]
 rw [e2] at hw
 have hw:wOs [root.add p f]≤_:=hw
 rw [e1] at hw
 have hle:(100*(scanB right s).length+100)*(600+16)≤60300*616:=Nat.mul_le_mul (by omega) (Nat.le_refl _)
 omega
end Go.Proofs.YtojoahlpgmnbnaaGreatDoor.K
namespace Go.Proofs.YtojoahlpgmnbnaaGreatDoor.J
open Go.RowKit
open Go.Lib hiding intOf
open U S T
theorem run_append_zero {P:Program} {w:World} (base:Nat) (t ty e:TypeId) (i:TypeInfo) (size:Nat) (ht:P.underlying t=some (.slice e)) (hi:P.info? e=some i)
  (v:Value) (n:Nat) (xs:List Value) (hown:w.ownsRow base e size v n xs) (a:Option Addr) (c:Nat) :
  (Builtin.append_ #[t,t] ty #[v,.slice a 0 c]).run P w=.ok v w:=by
 rcases hown.2 with ⟨rfl,rfl⟩|⟨g,cap,cur,rfl,_,_,hnc,_⟩
 ·cases a <;> simp [Builtin.append_,run_underlying ht,sizeOf,typeInfo,hi,Builtin.lenOf,Builtin.firstCells,loadCells,loadCellsFrom]
 ·cases a <;> simp [Builtin.append_,run_underlying ht,sizeOf,typeInfo,hi,Builtin.lenOf,Builtin.firstCells,hnc,storeCells,loadCells,loadCellsFrom]
theorem grown_refl (w:World) (row:Option Nat):w.grownBy w row:=⟨rfl,rfl,rfl,Nat.le_refl _,fun _ _ _=>rfl⟩
theorem wpList_append_row {P:Program} {w:World} {ops:Array Oper} {rest:List Oper} {o:Oper} {a:Act} {Q:Exit→Act→World→Prop} (hgd:o.guard=none) (s x:Operand) (t:TypeId)
  (ho:o.op=.call { callee:=.builtin .append,args:=#[s,x],argTypes:=#[t,t] })
  (base:Nat) (e:TypeId) (i:TypeInfo) (z:Value) (size bytes:Nat) (ht:P.underlying t=some (.slice e)) (hi:P.info? e=some i) (hz:i.zero=some z)
  (hsize:i.size=size) (hby:i.bytes=bytes) (hzs:z.cells.size=size) (hsz:0<size)
  (v:Value) (n:Nat) (xs:List Value) (hs:a.eval s=v) (hown:w.ownsRow base e size v n xs)
  (ad:Option Addr) (m c:Nat) (news:List Value) (hx:a.eval x=.slice ad m c) (hl:news.length=m*size) (hnews:m=0∨∃ g off,ad=some ⟨g,off,none⟩∧CellsAt w g off news) (h1:∀ u∈news,u.oneCell'=true)
  (h63:n+m≤maxLen) (hbytes:(n+m)*bytes≤140737488355328) (hbase:base≤w.heap.size)
  (h:∀ v' w',w'.ownsRow base e size v' (n+m) (xs++news)→w.grownBy w' v.ownBlock→(v'.ownBlock=v.ownBlock∨v'.ownBlock=some w.heap.size)→wpList P ops Q rest (a.put o.dst v') w'):wpList P ops Q (o :: rest) a w:=by
 rcases hnews with rfl|⟨g,off,rfl,hc⟩
 ·have hn:news=[]:=List.eq_nil_of_length_eq_zero (by omega)
  subst hn
  refine wpList_plain hgd fun K hK=>?_
  have hrun:=run_append_zero (P:=P) (w:=w) base t o.type e i size ht hi v n xs hown ad c
  unfold Oper.wp
  simp [execOp,ho,resolve,invoke,builtin,hs,hx,hrun,Result.andThen]
  refine hK _ _ (h v w ?_ (grown_refl w _) (.inl rfl))
  rw [List.append_nil,Nat.add_zero];exact hown
 ·exact wpList_append_own_at w hgd s x t ho base e i z size bytes ht hi hz hsize hby hzs hsz v n xs hs hown ⟨g,off,none⟩ m c news hx hl (fun j u hj=>by rw [Addr.add_lit];exact hc j u hj) h1 h63 hbytes hbase (fun v' w' a1 a2 _ a3=>h v' w' a1 a2 a3)
def kidsP:Pt→List Pt
 | .mk _ _ _ _ ks=>ks
def kidsL:List Pt→List Pt
 | []=>[]
 | p :: r=>kidsP p++kidsL r
theorem kidsL_app:∀ (a b:List Pt),kidsL (a++b)=kidsL a++kidsL b
 | [],b=>rfl
 | p :: r,b=>by rw [List.cons_append,kidsL,kidsL,kidsL_app r b,List.append_assoc]
theorem kidsL_take_succ {l:List Pt} {i:Nat} (h:i<l.length):kidsL (l.take (i+1))=kidsL (l.take i)++kidsP l[i]:=by
 rw [List.take_succ_eq_append_getElem h,kidsL_app];simp [kidsL]
theorem wt_kids:∀ l:List Pt,wtL (kidsL l)+l.length≤wtL l
 | []=>by simp [kidsL,wtL]
 | .mk k t f e ks :: r=>by
  have:=wt_kids r
  rw [kidsL,wtL,wtL_app,List.length_cons,wtP]
  show wtL ks+_+_≤_
  omega
theorem deepL_kids:∀ l:List Pt,l≠[]→deepL l=1+deepL (kidsL l)
 | [.mk k t f e ks],_=>by
  rw [deepL,deepL,deep,kidsL,kidsL]
  show max (deepL ks+1) 0=1+deepL (ks++[])
  rw [List.append_nil];omega
 | .mk k t f e0 ks :: q :: r,_=>by
  have h:=deepL_kids (q :: r) (by simp)
  have happ:∀ a b:List Pt,deepL (a++b)=max (deepL a) (deepL b):=by
   intro a b
   induction a with
   | nil=>rw [List.nil_append,deepL];omega
   | cons x a ih=>rw [List.cons_append,deepL,deepL,ih];omega
  have e:kidsL (.mk k t f e0 ks :: q :: r)=ks++kidsL (q :: r):=rfl
  rw [e,happ,deepL,h,deep]
  omega
theorem PartsIn.app {W:World} {R:Nat→Prop}:∀ {a b:List Pt} {xs ys:List Value},PartsIn W R a xs→PartsIn W R b ys→PartsIn W R (a++b) (xs++ys)
 | [],_,xs,_,h,k=>by
  have h:xs=[]:=h
  subst h
  exact k
 | p :: r,_,xs,ys,h,k=>by
  obtain ⟨lv,rest,rfl,h2,h3⟩:=h
  exact ⟨lv,rest++ys,by rw [List.append_assoc],h2,PartsIn.app h3 k⟩
def RowIn (W:World) (R:Nat→Prop) (l:List Pt) (v:Value):Prop:=∃ a c,v=.slice a l.length c∧(l=[]∨∃ g off xs,a=some ⟨g,off,none⟩∧CellsAt W g off xs∧PartsIn W R l xs)
theorem five_one (p:Pt) (lv:Value) (h:∃ a n c,lv=.slice a n c):∀ u∈five p lv,u.oneCell'=true:=by
 obtain ⟨a,n,c,rfl⟩:=h
 cases p
 intro u hu
 simp only [five,List.mem_cons,List.not_mem_nil,or_false] at hu
 rcases hu with rfl|rfl|rfl|rfl|rfl <;> rfl
theorem parts_one {W:World} {R:Nat→Prop}:∀ {l:List Pt} {xs:List Value},PartsIn W R l xs→∀ u∈xs,u.oneCell'=true
 | [],xs,h,u,hu=>by rw [show xs=[] from h] at hu;cases hu
 | p :: r,xs,h,u,hu=>by
  obtain ⟨lv,rest,rfl,h2,h3⟩:=h
  rcases List.mem_append.1 hu with hu|hu
  ·obtain ⟨k,t,f,e,ks⟩:=p
   obtain ⟨a,c,rfl⟩:=kids_form h2
   exact five_one _ _ ⟨_,_,_,rfl⟩ u hu
  ·exact parts_one h3 u hu
theorem row_in {W:World} {R:Nat→Prop} {B m:Nat} {v:Value} {l:List Pt} {xs:List Value} (h:W.ownsRow B 49 5 v m xs) (hm:l.length=m) (hp:PartsIn W R l xs):RowIn W R l v:=by
 subst hm
 rcases h.2 with ⟨rfl,h0⟩|⟨g,cap,cur,rfl,_⟩
 ·exact ⟨none,0,by rw [h0],.inl (List.eq_nil_of_length_eq_zero h0)⟩
 ·refine ⟨some ⟨g,0,none⟩,cap,rfl,.inr ⟨g,0,xs,rfl,fun j u hj=>?_,hp⟩⟩
  have hj2:=(List.getElem?_eq_some_iff.1 hj).1
  have hl:=h.1
  rw [Nat.zero_add,h.cellAt j (by omega)];exact hj
theorem infoP:(Tryz.prog.info? 49).map (fun i=>(i.zero,i.size,i.bytes))=some (some (.agg #[.string ⟨#[]⟩,.string ⟨#[]⟩,.int .i64 0,.int .i64 0,.slice none 0 0]),5,72):=by kernel_rfl
set_option maxHeartbeats 4000000 in
set_option maxRecDepth 20000 in
theorem kidsOf_any {w:World} {R:Nat→Prop} {l:List Pt} {v:Value} (hv:RowIn w R l v) (hw:wtL l≤1099511627776) :
  Calls Tryz.prog 105 #[v] w fun e w'=>∃ v',e=.returned v'∧RowIn w' R (kidsL l) v'∧Below w.heap.size w w':=by
 obtain ⟨a,c,rfl,hrow⟩:=hv
 obtain ⟨iP,hi0,hz0,hz1,hz2⟩:=info_parts infoP
 have HR:=hid hrow
 have hlb:l.length≤1099511627776:=Nat.le_trans (wtL_length l) hw
 have hkw:=wt_kids l
 have HW:=hid (show wtL (kidsL l)≤1099511627776 by omega)
 obtain ⟨n,hn⟩:∃ n,l.length=n:=⟨_,rfl⟩
 have HN:=hid hn
 rw [hn] at hlb
 rw [hn]
 clear hrow hn hw hkw
 go_enter Tryz.func105,Tryz.ntmps105
 go_wp2_with fail
 go_loopw [3,8] (fun vv iv wr=>∃ (i m:Nat) (ys:List Value),iv=.int .i64 i∧i≤n∧Hid (m=(kidsL (l.take i)).length)∧Hid (PartsIn w R (kidsL (l.take i)) ys)∧Hid (wr.ownsRow w.heap.size 49 5 vv m ys)∧Hid (Below w.heap.size w wr)) (fun _ iv _=>n - (Go.RowKit.intOf iv).toNat)
 case atStart=>exact ⟨0,0,[],rfl,Nat.zero_le _,hid rfl,hid rfl,hid (World.ownsRow_nil _ _ _ _),hid (Below.refl _ _)⟩
 case round =>
  obtain ⟨i,m,ys,rfl,hi,HM,HP,HO,HB⟩:=hrel
  obtain ⟨va,vc,rfl⟩:=owns_len HO.out
  by_cases hlt:i<n
  ·have hll:i<l.length:=by rw [HN.out];exact hlt
   obtain ⟨g,off,xs,rfl,hc,hp⟩:=HR.out.resolve_left (fun h=>by rw [h] at hll;exact Nat.not_lt_zero _ hll)
   obtain ⟨k',t',f',e',ks',a',c',hK⟩:=kid_at hp hc i hll
   have hrow':=kids_row hK.kids
   have hks:kidsP l[i]=ks':=by rw [hK.eq];rfl
   have hts:=kidsL_take_succ hll
   rw [hks] at hts
   have htot:wtL (kidsL l)≤1099511627776:=HW.out
   have hmk:m+ks'.length≤1099511627776:=by
    have h1:(kidsL (l.take (i+1))).length≤(kidsL l).length:=by
     have h2:kidsL l=kidsL (l.take (i+1))++kidsL (l.drop (i+1)):=by rw [← kidsL_app,List.take_append_drop]
     rw [h2,List.length_append];omega
    have h3:=wtL_length (kidsL l)
    rw [hts,List.length_append,← HM.out] at h1
    omega
   obtain ⟨zs,hz,hcz,hlz⟩:∃ zs,PartsIn w R ks' zs∧(ks'.length=0∨∃ g off,a'=some ⟨g,off,none⟩∧CellsAt w g off zs)∧zs.length=ks'.length*5:=by
    rcases hrow'.2.2 with rfl|⟨g',off',zs,rfl,_,h2,h3⟩
    ·exact ⟨[],rfl,.inl rfl,rfl⟩
    ·exact ⟨zs,h3,.inr ⟨g',off',rfl,h2⟩,by have:=PartsIn.length h3;omega⟩
   have hone:=parts_one hz
   have HM2:=hid (show m+ks'.length=(kidsL (l.take (i+1))).length by rw [hts,List.length_append,← HM.out])
   have HP2:=hid (show PartsIn w R (kidsL (l.take (i+1))) (ys++zs) by rw [hts];exact PartsIn.app HP.out hz)
   have hKb:=hK.below HB.out
   have j0:=hKb.k0
   have j1:=hKb.k1
   have j2:=hKb.k2
   have j3:=hKb.k3
   have j4:=hKb.k4
   obtain ⟨kb,hkb⟩:∃ x,bstr k'=x:=⟨_,rfl⟩
   obtain ⟨tb,htb⟩:∃ x,bstr t'=x:=⟨_,rfl⟩
   rw [hkb] at j0
   rw [htb] at j1
   have hcz2:∀ X,Below w.heap.size w X→(ks'.length=0∨∃ g off,a'=some ⟨g,off,none⟩∧CellsAt X g off zs):=fun X hX=>hcz.imp id (fun ⟨g,off,h1,h2⟩=>⟨g,off,h1,fun j u hj=>(hX.cell (World.block_lt_of_cell? w _ (h2 j u hj))).trans (h2 j u hj)⟩)
   have HCZ:=hid hcz2
   have hbw:=HB.out.size
   obtain ⟨kn,hkn⟩:∃ kn,ks'.length=kn:=⟨_,rfl⟩
   rw [hkn] at hmk HM2 j4 hlz HCZ
   have HLZ:=hid hlz
   have HONE:=hid hone
   clear hp hc hK hrow' hks hts htot hz hcz hKb hkb htb hcz2 hlz hone hkn HM HP
   go_upto_region 5 with fail
   obtain ⟨w1,hw1,hq1,hb1,hz1⟩:=new_block wr (.cells #[.string kb,.string tb,.int .i64 f',.int .i64 e',.slice a' kn c'] 49)
   rw [hw1]
   obtain ⟨⟨q0,q1,q2,q3,q4⟩,qf⟩:=cells_five hq1
   have HO1:=hid (owns_later HO.out hb1)
   have HB1:=hid (HB.out.trans (hb1.mono hbw))
   have hbw1:=HB1.out.size
   clear hq1 hb1 hw1 hz1 j0 j1 j2 j3 j4
   go_wp2_with (at_builtin;refine wpList_append_row rfl _ _ 47 rfl w.heap.size 49 iP _ 5 72 Tryz.underlying47 hi0 hz0 hz1 hz2 rfl (by decide) _ m ys rfl HO1.out _ kn c' zs rfl HLZ.out (HCZ.out _ HB1.out) HONE.out (by unfold maxLen;omega) (by omega) hbw1 ?_)
   intro v' w2 hown hgrow _
   have HO2:=hid hown
   have HB2:=hid (HB1.out.grown hgrow hbw1 (fun b hb=>(HO1.out.lt b hb).1))
   clear hown hgrow
   go_wp2_with fail
   go_roundw
   case rel=>exact ⟨i+1,m+kn,ys++zs,by go_num,by omega,HM2,HP2,HO2,HB2⟩
   case measure=>simp [Go.RowKit.intOf];omega
  ·obtain rfl:i=n:=by omega
   go_wp2_with fail
   go_ret
   have ht:l.take i=l:=List.take_of_length_le (by rw [HN.out];exact Nat.le_refl _)
   have hP:=HP.out
   have hM:=HM.out
   rw [ht] at hP hM
   exact ⟨_,rfl,row_in HO.out hM.symm (parts_below hP HB.out),HB.out⟩
set_option maxHeartbeats 4000000 in
set_option maxRecDepth 20000 in
theorem deep_any {w:World} {R:Nat→Prop} (p:Pt) {lv:Value} (hv:KidsIn w R p lv) (hw:wtP p≤1099511627776) :
  Calls Tryz.prog 77 #[arg p lv] w fun e w'=>e=.returned (.int .i64 (deep p))∧Below w.heap.size w w':=by
 obtain ⟨k,t,f,e,ks⟩:=p
 obtain ⟨a,c,rfl⟩:=kids_form hv
 have HV:=hid hv
 obtain ⟨D,hD⟩:∃ D,deep (.mk k t f e ks)=D:=⟨_,rfl⟩
 have hdl:deepL [.mk k t f e ks]=D:=by rw [deepL,deepL,hD];omega
 have hDw:D≤1099511627776:=by
  have hdw:∀ (n:Nat) (l:List Pt),wtL l≤n→deepL l≤wtL l:=by
   intro n
   induction n with
   | zero=>intro l h;cases l with
    | nil=>rw [deepL];exact Nat.zero_le _
    | cons p r=>have:=wtP_pos p;rw [wtL] at h;omega
   | succ n ih =>
    intro l h
    by_cases h0:l=[]
    ·rw [h0,deepL];exact Nat.zero_le _
    ·have h1:=wt_kids l
     have h2:0<l.length:=List.length_pos_iff.2 h0
     have h3:=ih (kidsL l) (by omega)
     rw [deepL_kids l h0];omega
  have h1:=hdw _ [.mk k t f e ks] (Nat.le_refl _)
  rw [hdl] at h1
  rw [wtL,wtL] at h1
  omega
 have HD:=hid hdl
 have HWT:=hid (show wtL [.mk k t f e ks]≤1099511627776 by rw [wtL,wtL];omega)
 rw [hD]
 simp only [arg,five]
 obtain ⟨kb,hkb⟩:∃ x,bstr k=x:=⟨_,rfl⟩
 obtain ⟨tb,htb⟩:∃ x,bstr t=x:=⟨_,rfl⟩
 have HKT:=hid (And.intro hkb htb)
 rw [hkb,htb]
 obtain ⟨n,hn⟩:∃ n,ks.length=n:=⟨_,rfl⟩
 have HN:=hid hn
 rw [hn]
 clear hv hD hdl hw hkb htb hn
 go_enter Tryz.func77,Tryz.ntmps77
 go_upto_region 2 with fail
 obtain ⟨w1,hw1,hq1,hb1,hz1⟩:=new_block w (.cells #[.string kb,.string tb,.int .i64 f,.int .i64 e,.slice a n c] 49)
 obtain ⟨⟨q0,q1,q2,q3,q4⟩,qf⟩:=cells_five hq1
 have HB1:=hid hb1
 rw [hw1]
 clear hq1 hb1 hw1
 go_wp2_with fail
 obtain ⟨w2,hw2,hq2,hb2,hz2⟩:=new_block w1 (.cells #[.string kb,.string tb,.int .i64 f,.int .i64 e,.slice a n c] 49)
 rw [hw2]
 have HB2:=hid (HB1.out.trans (hb2.mono HB1.out.size))
 have HRow:Hid (RowIn w2 R [.mk k t f e ks] (.slice (some ⟨w1.heap.size,0,none⟩) 1 1)):=hid ⟨_,1,rfl,.inr ⟨w1.heap.size,0,five (.mk k t f e ks) (.slice a ks.length c),rfl,fun j u hj=>by
  have h:(five (.mk k t f e ks) (.slice a ks.length c))=[.string kb,.string tb,.int .i64 f,.int .i64 e,.slice a n c]:=by rw [five,HKT.out.1,HKT.out.2,HN.out]
  rw [h] at hj
  rw [Nat.zero_add]
  unfold World.cell?
  rw [hq2]
  simpa using hj,⟨_,[],by rw [List.append_nil],kids_below HV.out HB2.out,rfl⟩⟩⟩
 clear hw2 hq2 hb2 hz1 hz2 q0 q1 q2 q3 q4 qf
 obtain ⟨N0,hN0⟩:∃ N0,wtL [.mk k t f e ks]=N0:=⟨_,rfl⟩
 have HN0:=hid hN0
 have hDb:=hDw
 clear hN0
 go_loopg [3,4] N0 (fun N kv vv wr=>∃ (d:Nat) (l:List Pt),kv=.int .i64 d∧d≤D∧Hid (d+deepL l=D)∧Hid (wtL l=N)∧Hid (N≤1099511627776)∧Hid (RowIn wr R l vv)∧Hid (Below w.heap.size w wr))
 case atStart=>exact ⟨0,_,rfl,Nat.zero_le _,hid (by rw [HD.out];omega),HN0,hid (by have:=HWT.out;have:=HN0.out;omega),HRow,HB2⟩
 case round =>
  obtain ⟨d,l,rfl,hd,HDL,HNl,HNb,HR,HB⟩:=hrel
  have hbw:=HB.out.size
  by_cases h0:l=[]
  ·subst h0
   have hDL:=HDL.out
   rw [deepL,Nat.add_zero] at hDL
   subst hDL
   obtain ⟨va,vc,rfl,_⟩:=HR.out
   have hz:([]:List Pt).length=0:=rfl
   rw [hz]
   clear hz
   go_wp2_with fail
   go_ret
   exact ⟨rfl,HB.out⟩
  ·have hpos:=List.length_pos_iff.2 h0
   have hkw:=wt_kids l
   have hdk:=deepL_kids l h0
   have cK:=kidsOf_any HR.out (by have:=HNl.out;have:=HNb.out;omega)
   have HDL2:=hid (show d+1+deepL (kidsL l)=D by have:=HDL.out;omega)
   have hd2:d+1≤D:=by have:=HDL.out;omega
   have HWK:=hid (Nat.lt_of_lt_of_eq (show wtL (kidsL l)<wtL l by omega) HNl.out)
   obtain ⟨va,vc,rfl,_⟩:=HR.out
   obtain ⟨n',hn'⟩:∃ n',l.length=n':=⟨_,rfl⟩
   rw [hn'] at cK hpos
   rw [hn']
   clear hkw hdk HDL HR hn'
   go_wp2_with fail
   refine cK.mono ?_
   rintro e w3 ⟨v',rfl,hr3,hb3⟩
   have HR3:=hid hr3
   have HB3:=hid (HB.out.trans (hb3.mono hbw))
   clear cK hr3 hb3
   go_wp2_with fail
   go_roundg (wtL (kidsL l))
   case rel=>exact ⟨d+1,kidsL l,by go_num,hd2,HDL2,hid rfl,hid (by have:=HWK.out;have:=HNb.out;omega),HR3,HB3⟩
   case measure=>have:=HWK.out;omega
end Go.Proofs.YtojoahlpgmnbnaaGreatDoor.J
