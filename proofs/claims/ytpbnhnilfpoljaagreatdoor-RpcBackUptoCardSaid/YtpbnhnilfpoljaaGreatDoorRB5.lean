/- What the claim needs of the texts VRead7, VRep, VPart. -/
import Derived.Test.YtpbnhnilfpoljaaGreatDoorRB4
import Derived.Defers
import Derived.Recover
import Derived.Laws.AppendOwn
import Derived.OwnWalk
namespace Go.Proofs.YtpbnhnilfpoljaaGreatDoor.V
open Go.RowKit
open Go.Lib
set_option maxHeartbeats 1000000 in
theorem takeAll_d (d:Nat) (s set:ByteArray) (p:UInt8→Bool) (hset:SetIs set p) (l:List UInt8) (o:Int) (w:World) (hr:RdL d s l o w) (hs:s.size≤1099511627776) (u:FrameMode) :
  CallsD Tryz.prog 82 #[.pointer (some ⟨d,0,none⟩),.string set] u w fun e u' w'=>u'=u∧(e=.returned (.string ⟨(l.takeWhile p).toArray⟩)∧RdL d s (l.dropWhile p) o w'∧Mut w.heap.size d w w'):=by
 obtain ⟨at0,ha,hl,hr⟩:=hr
 have HL:=Lib.hid hl
 have c0:=hr.c0
 have c1:=hr.c1
 clear hl
 go_enter_d Tryz.func82,Tryz.ntmps82
 go_wp2
 clear c0 c1
 go_loopw [] (fun w'=>∃ j:Nat,at0≤j∧j≤s.size∧Rd d s (j:Nat) o w'∧Mut w.heap.size d w w'∧Taken p l (j - at0)) (fun w'=>s.size - atOf d w')
 case atStart=>exact ⟨at0,Nat.le_refl _,ha,hr,Mut.refl _ _ _,fun i hi=>by omega⟩
 case round =>
  obtain ⟨j,hj,hk,hrk,hm,HT⟩:=hrel
  have hat:=Lib.hid (atOf_rd hrk)
  have c0:=hrk.c0
  have c1:=hrk.c1
  have f1:=hrk.f1
  obtain ⟨k,hjk⟩:∃ k,j=at0+k:=⟨j - at0,by omega⟩
  have fin:(∀ c,l[k]?=some c→p c=false)→∀ n nq,Ending.returned (.string (s.extract at0 j))=.returned (.string ⟨(l.takeWhile p).toArray⟩)∧RdL d s (l.dropWhile p) o ((wr.drewN n).drewN nq)∧Mut w.heap.size d w ((wr.drewN n).drewN nq):=fun hno n nq=>by
   rw [hjk,Nat.add_sub_cancel_left] at HT
   obtain ⟨h1,h2⟩:=HT.all hno
   rw [h1,h2,← HL.out,hjk,← extract_take]
   exact ⟨rfl,RdL.of j _ rfl hk (by rw [List.drop_drop,hjk]) ((hrk.drewN n).drewN nq),(hm.drewN n).drewN nq⟩
  have Fin:=Lib.hid fin
  have HJ:=Lib.hid hjk
  clear fin
  by_cases hlt:j<s.size
  ·have hg:l[k]?=some s[j]:=by
    have hg:=drop_get s at0 k (by omega)
    rw [HL.out] at hg;rw [hg];congr 1;simp only [hjk]
   obtain ⟨I,hI⟩:∃ I,Lib.indexByte set.data.toList s[j]=I:=⟨_,rfl⟩
   have hcI:∀ W,Calls Tryz.prog 108 #[.string set,.int .u8 (s[j].toNat)] W fun e w'=>e=.returned (.int .i64 I)∧w'=W:=fun W=>by
    have h:=Tryz.strings_IndexByte set (s[j].toNat) W
    rw [u8_round,hI] at h;exact h
   have hpI:p s[j]=decide (0≤I):=by rw [← hI];exact hset _
   have HP:=Lib.hid hpI
   have HG:=Lib.hid hg
   have b0:(0:Int)≤(j:Int):=by omega
   have b1:(j:Int)<(s.size:Int):=by omega
   clear hpI hI hg hjk
   by_cases h0:0≤I
   ·go_wp2
    go_quiet (first|(go_at_call 46;exact Calls.quiet_of (ended_no d s j o _ (hrk.drewN _) hlt))|(go_at_call 108;exact Calls.quiet_of_same (hcI _)))
    go_wp2
    go_roundw
    case rel=>exact ⟨j+1,by omega,by omega,by have:=(hrk.drewN nq).set1 ((j+1:Nat):Int);simpa using this,(hm.drewN nq).setCell 1 _,by rw [show j+1 - at0=k+1 by have:=HJ.out;omega];exact Taken.step (by rw [show k=j - at0 by have:=HJ.out;omega];exact HT) _ HG.out (by rw [HP.out];simpa using h0)⟩
    case measure=>rw [hat.out,atOf_rd (a:=j+1) (o:=o) (s:=s) (by have:=(hrk.drewN nq).set1 ((j+1:Nat):Int);simpa using this)];omega
   ·have hd0:decide (0≤I)=false:=by simpa using h0
    go_wp2
    go_quiet (first|(go_at_call 46;exact Calls.quiet_of (ended_no d s j o _ (hrk.drewN _) hlt))|(go_at_call 108;exact Calls.quiet_of_same (hcI _)))
    go_wp2
    go_quiet (fail)
    go_wp2
    go_ret
    refine Fin.out (fun c hc=>?_) _ _
    rw [HG.out] at hc
    obtain rfl:=Option.some.inj hc
    rw [HP.out];simpa using h0
  ·have hrk':Rd d s (s.size:Nat) o wr:=by obtain rfl:j=s.size:=by omega
                                          exact hrk
   have hn:l[k]?=none:=by
    rw [← HL.out];exact drop_none s at0 k (by omega)
   obtain rfl:j=s.size:=by omega
   clear hjk
   go_wp2
   go_quiet (first|(go_at_call 46;exact Calls.quiet_of (ended_yes d s o _ (hrk.drewN _))))
   go_wp2
   go_quiet (fail)
   go_wp2
   go_ret
   exact Fin.out (fun c hc=>by rw [hn] at hc;cases hc) _ _
theorem closed_d (d p:Nat) (s:ByteArray) (l:List UInt8) (o:Int) (w:World) (hr:RdL d s l o w) (h1:1≤o) (h2:o≤20) (hp:w.cell? ⟨p,0,none⟩=some (.pointer (some ⟨d,0,none⟩))) (u:FrameMode) :
  CallsD Tryz.prog 126 #[.pointer (some ⟨p,0,none⟩)] u w fun e u' w'=>u'=u∧(e=.returned (.tuple #[])∧RdL d s l (o - 1) w'∧Mut w.heap.size d w w'):=by
 obtain ⟨a,ha,hl,hr⟩:=hr
 have HL:=Lib.hid hl
 have q2:=hr.c2
 have f2:=hr.f2
 clear hl
 go_enter_d Tryz.func126,Tryz.ntmps126
 go_wp2
 go_end0
 exact ⟨rfl,⟨a,ha,HL.out,hr.set2 _⟩,(Mut.refl _ _ _).setCell 2 _⟩
structure MutX (B d:Nat) (X:Nat→Prop) (w w':World):Prop where
 os:w'.os=w.os
 tape:w'.tape=w.tape
 output:w'.output=w.output
 size:w.heap.size≤w'.heap.size
 block:∀ k,k<B→k≠d→¬ X k→w'.heap[k]?=w.heap[k]?
theorem MutX.trans {B d:Nat} {X:Nat→Prop} {a b c:World} (h:MutX B d X a b) (k:MutX B d X b c):MutX B d X a c :=
 ⟨k.os.trans h.os,k.tape.trans h.tape,k.output.trans h.output,Nat.le_trans h.size k.size,fun i hi hd hx=>(k.block i hi hd hx).trans (h.block i hi hd hx)⟩
theorem MutX.mono {B B' d:Nat} {X:Nat→Prop} {w w':World} (h:MutX B d X w w') (hB:B'≤B):MutX B' d X w w':=⟨h.os,h.tape,h.output,h.size,fun k hk=>h.block k (Nat.lt_of_lt_of_le hk hB)⟩
theorem MutX.of_mut {B d:Nat} {X:Nat→Prop} {w w':World} (h:Mut B d w w'):MutX B d X w w':=⟨h.os,h.tape,h.output,h.size,fun k hk hd _=>h.block k hk hd⟩
theorem MutX.mut {B B' d:Nat} {X:Nat→Prop} {w w':World} (h:MutX B d X w w') (hB:B'≤B) (hX:∀ k,X k→B'≤k):Mut B' d w w':=⟨h.os,h.tape,h.output,h.size,fun k hk hd=>h.block k (by omega) hd (fun hx=>by have:=hX k hx;omega)⟩
def loopG {σ:Type} (step:Nat→σ→List UInt8→Res σ) (endc:UInt8):Nat→List UInt8→σ→Res σ
 | 0,_,_=>.bad
 | f+1,l,st =>
  match step f st l with
  | .bad=>.bad
  | .deep=>.deep
  | .ok st' r=>match r with
   | []=>.bad
   | c :: r'=>if c=endc then .ok st' r' else if c=44 then loopG step endc f r' st' else .bad
def ReadsX {σ:Type} (d:Nat) (s:ByteArray) (o:Int) (I:σ→World→Prop) (B:Nat) (X:Nat→Prop) (r:Res σ) (w:World) (e:Ending) (w':World):Prop :=
 MutX B d X w w'∧match r with
 | .ok st l=>e=.returned (.int .i64 0)∧I st w'∧RdL d s l o w'
 | .bad=>e=.returned (.int .i64 21)∧∃ l,RdL d s l o w'
 | .deep=>e=.returned (.int .i64 22)∧∃ l,RdL d s l o w'
def partsG {σ:Type} (step:Nat→σ→List UInt8→Res σ) (endc:UInt8) (f:Nat) (o:Int) (l:List UInt8) (st0:σ):Res σ :=
 if o=20 then .deep
 else if Lib.hasPrefix (skip l) [endc]=true then .ok st0 ((skip l).drop 1)
 else loopG step endc f (skip l) st0
theorem loopG_bad {σ:Type} {step:Nat→σ→List UInt8→Res σ} {endc:UInt8} {f:Nat} {l:List UInt8} {st:σ} (h:step f st l=.bad):loopG step endc (f+1) l st=.bad:=by simp only [loopG,h]
theorem loopG_deep {σ:Type} {step:Nat→σ→List UInt8→Res σ} {endc:UInt8} {f:Nat} {l:List UInt8} {st:σ} (h:step f st l=.deep):loopG step endc (f+1) l st=.deep:=by simp only [loopG,h]
theorem loopG_end {σ:Type} {step:Nat→σ→List UInt8→Res σ} {endc:UInt8} {f:Nat} {l r:List UInt8} {st st':σ} (h:step f st l=.ok st' r) (h2:Lib.hasPrefix r [endc]=true):loopG step endc (f+1) l st=.ok st' (r.drop 1):=by
 simp only [loopG,h]
 rw [prefix_one h2];simp
theorem loopG_more {σ:Type} {step:Nat→σ→List UInt8→Res σ} {endc:UInt8} {f:Nat} {l r:List UInt8} {st st':σ} (h:step f st l=.ok st' r) (h2:Lib.hasPrefix r [endc]=false) (h3:Lib.hasPrefix r [44]=true):loopG step endc (f+1) l st=loopG step endc f (r.drop 1) st':=by
 simp only [loopG,h]
 rw [prefix_one h3] at h2 ⊢
 have:¬ (44:UInt8)=endc:=by intro h4;subst h4;simp [Lib.hasPrefix] at h2
 simp [this]
theorem loopG_wrong {σ:Type} {step:Nat→σ→List UInt8→Res σ} {endc:UInt8} {f:Nat} {l r:List UInt8} {st st':σ} (h:step f st l=.ok st' r) (h2:Lib.hasPrefix r [endc]=false) (h3:Lib.hasPrefix r [44]=false):loopG step endc (f+1) l st=.bad:=by
 simp only [loopG,h]
 cases r with
 | nil=>rfl
 | cons c r' =>
  have a:¬ c=endc:=by intro h4;subst h4;simp [Lib.hasPrefix] at h2
  have b:¬ c=44:=by intro h4;subst h4;simp [Lib.hasPrefix] at h3
  simp [a,b]
set_option maxHeartbeats 2000000 in
theorem parts_any {σ:Type} (step:Nat→σ→List UInt8→Res σ) (endc:UInt8) (I:Nat→σ→World→Prop) (X:Nat→Prop) (fcl:FuncId) (cap:Array Value)
  (d B0 f:Nat) (s:ByteArray) (l:List UInt8) (o:Nat) (st0:σ) (w:World) (hr:RdL d s l o w) (hE:Env B0 w) (hd:B0≤d) (hs:s.size≤1099511627776) (ho:o≤20)
  (hX:∀ k,X k→B0≤k∧k<w.heap.size) (hf:2*l.length+2≤f)
  (hlen:∀ f st l st' r,step f st l=.ok st' r→r.length≤l.length) (cnt:σ→Nat) (hcnt0:cnt st0=0) (hcnt:∀ f st l st' r,step f st l=.ok st' r→cnt st'≤cnt st+1)
  (hI0:∀ W,Mut w.heap.size d w W→I W.heap.size st0 W)
  (hIm:∀ Bl st W W',Bl≤W.heap.size→I Bl st W→Mut W.heap.size d W W'→I Bl st W')
  (eg:∀ args w,(callFunc fcl args).run Tryz.prog w=.ok (.enter fcl args) w)
  (hread:∀ Bl f' st l' W,o<20→cnt st+f'<f→2*l'.length+1≤f'→(∀ k,X k→k<Bl)→Bl≤W.heap.size→Env B0 W→I Bl st W→RdL d s l' (o+1:Nat) W→Calls Tryz.prog fcl cap W (ReadsX d s (o+1:Nat) (I Bl) Bl X (step f' st l') W)) :
  Calls Tryz.prog 110 #[.pointer (some ⟨d,0,none⟩),.string ⟨#[endc]⟩,.func (.func fcl) #[] cap] w (ReadsX d s o (fun st W=>∃ Bl,I Bl st W) w.heap.size X (partsG step endc f o l st0) w):=by
 have hmf:∀ (fn:Fn) (first cap:Array Value) (w:World),(Instr.makeFunc fn first cap).run Tryz.prog w=.ok (.func fn first cap) w:=fun _ _ _ _=>rfl
 have hdlt:=hr.lt
 by_cases h20:o=20
 ·have hres:partsG step endc f o l st0=.deep:=by unfold partsG;rw [if_pos (by omega)]
  rw [hres]
  obtain ⟨a,ha,hl,hR⟩:=hr
  have HL:=Lib.hid hl
  have q2:=hR.c2
  subst h20
  clear hres hl hread hI0 hlen hf
  go_enter_defers Tryz.func110,Tryz.ntmps110
  go_wp2_with fail
  exact ⟨_,results_tmp rfl _ _ _,MutX.of_mut ((Mut.refl _ _ _).alloc (Nat.le_refl _) _),rfl,l,a,ha,HL.out,hR.alloc _⟩
 ·have q20:((o:Int)==20)=false:=by simp;omega
  have hof:(if (o:Int)=20 then Res.deep else if Lib.hasPrefix (skip l) [endc]=true then .ok st0 ((skip l).drop 1) else loopG step endc f (skip l) st0)=if Lib.hasPrefix (skip l) [endc]=true then .ok st0 ((skip l).drop 1) else loopG step endc f (skip l) st0:=if_neg (by omega)
  have hsl:(skip l).length≤l.length:=(List.dropWhile_suffix _).length_le
  obtain ⟨a,ha,hl,hR⟩:=hr
  have HL:=Lib.hid hl
  have q2:=hR.c2
  have f2:=hR.f2
  have hoi:(o:Int)≤19:=by omega
  have HR1:=Lib.hid (show ∀ ob,RdL d s l (o+1:Nat) ((w.setCell ⟨d,2,none⟩ (.int .i64 ((o:Int)+1))).alloc ob) from fun ob=>⟨a,ha,hl,by have:=(hR.set2 ((o+1:Nat):Int)).alloc ob;simpa using this⟩)
  have HM1:=Lib.hid (show ∀ ob,Mut w.heap.size d w ((w.setCell ⟨d,2,none⟩ (.int .i64 ((o:Int)+1))).alloc ob) from fun ob=>((Mut.refl _ _ _).setCell 2 _).alloc ((Mut.refl w.heap.size d w).setCell 2 (.int .i64 ((o:Int)+1))).size ob)
  have HZ1:=Lib.hid (show ∀ ob,w.heap.size+1≤((w.setCell ⟨d,2,none⟩ (.int .i64 ((o:Int)+1))).alloc ob).heap.size from fun ob=>Nat.le_of_eq (by simp [World.alloc,World.setCell]))
  have HC1:=Lib.hid (show ((w.setCell ⟨d,2,none⟩ (.int .i64 ((o:Int)+1))).alloc (.cells #[.pointer (some ⟨d,0,none⟩)] 149)).cell? ⟨w.heap.size,0,none⟩=some (.pointer (some ⟨d,0,none⟩)) from by rw [World.cell?_alloc_at _ _ _ _ (by simp [World.setCell])];rfl)
  have HLoop:Hid (partsG step endc f o l st0=if Lib.hasPrefix (skip l) [endc]=true then .ok st0 ((skip l).drop 1) else loopG step endc f (skip l) st0):=Lib.hid hof
  clear hl hof
  generalize partsG step endc f o l st0=RR at *
  go_enter_defers Tryz.func110,Tryz.ntmps110
  go_wp2_with fail
  have hr1:=HR1.out (.cells #[.pointer (some ⟨d,0,none⟩)] 149)
  have hm1:=HM1.out (.cells #[.pointer (some ⟨d,0,none⟩)] 149)
  have hz1:=HZ1.out (.cells #[.pointer (some ⟨d,0,none⟩)] 149)
  have hc1:=HC1.out
  clear HR1 HM1 HZ1 HC1 q2 f2 hR HL
  generalize (w.setCell ⟨d,2,none⟩ (.int .i64 ((o:Int)+1))).alloc (.cells #[.pointer (some ⟨d,0,none⟩)] 149)=W1 at *
  refine (takeAll_any d s _ blank set_blank l _ _ hr1 hs).mono ?_;rintro e w1 ⟨rfl,hr2,hm2⟩
  have hc2:w1.cell? ⟨w.heap.size,0,none⟩=some (.pointer (some ⟨d,0,none⟩)):=by rw [(cells_mut hm2 (b:=w.heap.size) (by omega) (by omega)).1];exact hc1
  have hz2:=hm2.size
  replace hm2:=hm1.trans (hm2.mono (by omega))
  clear hr1 hm1 hc1
  replace hr2:RdL d s (skip l) (o+1:Nat) w1:=hr2
  cases hp:Lib.hasPrefix (skip l) [endc] with
  | true =>
   have hres:RR=.ok st0 ((skip l).drop 1):=by rw [HLoop.out,if_pos hp]
   have HRes:=Lib.hid hres
   clear hres HLoop hread
   go_wp2_with fail
   refine (take_yes d s ⟨#[endc]⟩ (skip l) _ _ hr2 hs hp).mono ?_;rintro e w2 ⟨rfl,hr3,hm3⟩
   have hc3:w2.cell? ⟨w.heap.size,0,none⟩=some (.pointer (some ⟨d,0,none⟩)):=by rw [(cells_mut hm3 (b:=w.heap.size) (by omega) (by omega)).1];exact hc2
   replace hm3:=hm2.trans (hm3.mono (by omega))
   go_wp2_with fail
   refine leaves_cons (f:=126) (args:=#[.pointer (some ⟨w.heap.size,0,none⟩)]) (by simp) (by simp [go_sem]) ?_
   refine (closed_d d w.heap.size s _ _ w2 hr3 (by omega) (by omega) hc3 _).mono ?_
   rintro e u' w3 ⟨rfl,rfl,hr4,hm4⟩
   refine ⟨_,results_tmp rfl _ _ _,?_⟩
   have hm5:=hm3.trans (hm4.mono hm3.size)
   refine ⟨MutX.of_mut hm5,?_⟩
   rw [HRes.out]
   rw [show ((o+1:Nat):Int) - 1=o by omega] at hr4
   exact ⟨rfl,⟨_,hI0 w3 hm5⟩,hr4⟩
  | false =>
   have hres:RR=loopG step endc f (skip l) st0:=by rw [HLoop.out,if_neg (by rw [hp];simp)]
   have HRes:=Lib.hid hres.symm
   clear hres HLoop
   go_wp2_with fail
   refine (take_no d s ⟨#[endc]⟩ (skip l) _ _ hr2 hp).mono ?_;rintro e w2 ⟨rfl,hr3,hm3⟩
   have hc3:w2.cell? ⟨w.heap.size,0,none⟩=some (.pointer (some ⟨d,0,none⟩)):=by rw [(cells_mut hm3 (b:=w.heap.size) (by omega) (by omega)).1];exact hc2
   have hz3:=hm3.size
   replace hm3:=hm2.trans (hm3.mono (by omega))
   have hI:=hI0 w2 hm3
   clear hr2 hm2 hc2 hp hI0
   go_wp2_with fail
   have fin:∀ (v:Value) (tm:Array Value) (l':List UInt8) (W:World),tm.getD 6 undef=v→RdL d s l' (o+1:Nat) W→W.cell? ⟨w.heap.size,0,none⟩=some (.pointer (some ⟨d,0,none⟩))→w.heap.size≤W.heap.size→(∀ W',Mut W.heap.size d W W'→RdL d s l' o W'→ReadsX d s o (fun st W=>∃ Bl,I Bl st W) w.heap.size X RR w (.returned v) W') →
     Leaves Tryz.prog Tryz.f110 tm (ReadsX d s o (fun st W=>∃ Bl,I Bl st W) w.heap.size X RR w) [{ target:=Target.fn (Fn.func 126) #[.pointer (some ⟨w.heap.size,0,none⟩)],args:=#[] }] .returning W:=by
    intro v tm l' W hv hrW hcW hzW hfin
    refine leaves_cons (f:=126) (args:=#[.pointer (some ⟨w.heap.size,0,none⟩)]) (by simp) (by simp [go_sem]) ?_
    refine (closed_d d w.heap.size s _ _ W hrW (by omega) (by omega) hcW _).mono ?_
    rintro e u' w3 ⟨rfl,rfl,hr4,hm4⟩
    rw [show ((o+1:Nat):Int) - 1=o by omega] at hr4
    subst hv
    exact ⟨_,results_tmp rfl _ _ _,hfin w3 hm4 hr4⟩
   have Fin:=Lib.hid fin
   clear fin
   go_loopw [] (fun W=>∃ (f' Bl:Nat) (l':List UInt8) (st:σ),RdL d s l' (o+1:Nat) W∧W.cell? ⟨w.heap.size,0,none⟩=some (.pointer (some ⟨d,0,none⟩))∧I Bl st W∧MutX w.heap.size d X w W∧w.heap.size<Bl∧Bl≤W.heap.size∧Hid (loopG step endc f' l' st=RR)∧2*l'.length+2≤f'∧cnt st+f'≤f) (fun W=>s.size - atOf d W)
   case atStart=>exact ⟨f,w2.heap.size,skip l,st0,hr3,hc3,hI,MutX.of_mut hm3,by omega,Nat.le_refl _,HRes,by omega,by omega⟩
   case round =>
    obtain ⟨f',Bl,l',st,hrl,hcb,hIl,hml,hBl,hBz,HQ,hf1,hf2⟩:=hrel
    have hleft:=Lib.hid (left_rd hrl)
    obtain ⟨g,rfl⟩:∃ g,f'=g+1:=⟨f' - 1,by omega⟩
    have hEl:Env B0 wr:=hE.later ((hml.mut hE.size (fun k hk=>(hX k hk).1)).below hd)
    have hcall:=hread Bl g st l' wr (by omega) (by omega) (by omega) (fun k hk=>by have:=(hX k hk).2;omega) hBz hEl hIl hrl
    have hP:∀ W,MutX Bl d X wr W→W.cell? ⟨w.heap.size,0,none⟩=some (.pointer (some ⟨d,0,none⟩)):=fun W hm=>by
     have h:=hm.block w.heap.size hBl (by omega) (fun h=>by have:=(hX _ h).2;omega)
     unfold World.cell? at hcb ⊢
     rw [h];exact hcb
    cases hst:step g st l' with
    | bad =>
     rw [hst] at hcall
     have HR:=Lib.hid (HQ.out.symm.trans (loopG_bad hst))
     clear hst HQ hread
     go_wp2_with fail
     refine hcall.mono ?_;rintro e w3 ⟨hm3',rfl,l3,hr3'⟩
     have hcb3:=hP w3 hm3'
     have hz3':=hm3'.size
     clear hcall hP
     go_wp2_with fail
     refine Fin.out _ _ _ w3 rfl hr3' hcb3 (by omega) (fun W' hm' hr'=>⟨hml.trans ((hm3'.mono (by omega)).trans (MutX.of_mut (hm'.mono (by omega)))),?_⟩)
     rw [HR.out]
     exact ⟨rfl,_,hr'⟩
    | deep =>
     rw [hst] at hcall
     have HR:=Lib.hid (HQ.out.symm.trans (loopG_deep hst))
     clear hst HQ hread
     go_wp2_with fail
     refine hcall.mono ?_;rintro e w3 ⟨hm3',rfl,l3,hr3'⟩
     have hcb3:=hP w3 hm3'
     have hz3':=hm3'.size
     clear hcall hP
     go_wp2_with fail
     refine Fin.out _ _ _ w3 rfl hr3' hcb3 (by omega) (fun W' hm' hr'=>⟨hml.trans ((hm3'.mono (by omega)).trans (MutX.of_mut (hm'.mono (by omega)))),?_⟩)
     rw [HR.out]
     exact ⟨rfl,_,hr'⟩
    | ok st' r =>
     rw [hst] at hcall
     have hrlen:=hlen _ _ _ _ _ hst
     have hcn:=hcnt _ _ _ _ _ hst
     cases hp1:Lib.hasPrefix r [endc] with
     | true =>
      have HR:=Lib.hid (HQ.out.symm.trans (loopG_end hst hp1))
      have ct:∀ W,RdL d s r (o+1:Nat) W→_:=fun W h=>take_yes d s ⟨#[endc]⟩ r _ W h hs hp1
      clear hst HQ hread hp1
      go_wp2_with fail
      refine hcall.mono ?_;rintro e w3 ⟨hm3',rfl,hI3,hr3'⟩
      have hcb3:=hP w3 hm3'
      have hz3':=hm3'.size
      clear hcall hP
      go_wp2_with fail
      refine (ct _ hr3').mono ?_;rintro e w4 ⟨rfl,hr4,hm4⟩
      have hcb4:w4.cell? ⟨w.heap.size,0,none⟩=some (.pointer (some ⟨d,0,none⟩)):=by rw [(cells_mut hm4 (b:=w.heap.size) (by omega) (by omega)).1];exact hcb3
      have hz4:=hm4.size
      clear ct
      go_wp2_with fail
      refine Fin.out _ _ _ w4 rfl hr4 hcb4 (by omega) (fun W' hm' hr'=>⟨hml.trans ((hm3'.mono (by omega)).trans (MutX.of_mut ((hm4.mono (by omega)).trans (hm'.mono (by omega))))),?_⟩)
      rw [HR.out]
      exact ⟨rfl,⟨_,hIm _ _ _ _ (by omega) hI3 (hm4.trans (hm'.mono (by omega)))⟩,hr'⟩
     | false =>
      have ct:∀ W,RdL d s r (o+1:Nat) W→_:=fun W h=>take_no d s ⟨#[endc]⟩ r _ W h hp1
      cases hp2:Lib.hasPrefix r [44] with
      | true =>
       have HR:=Lib.hid (HQ.out.symm.trans (loopG_more hst hp1 hp2)).symm
       have ct2:∀ W,RdL d s r (o+1:Nat) W→_:=fun W h=>take_yes d s ⟨#[44]⟩ r _ W h hs hp2
       have hr1:1≤r.length:=by rw [prefix_one hp2];simp
       have HLR:=Lib.hid (And.intro hr1 (And.intro hrlen hcn))
       clear hst HQ hread hp1 hp2
       go_wp2_with fail
       refine hcall.mono ?_;rintro e w3 ⟨hm3',rfl,hI3,hr3'⟩
       have hcb3:=hP w3 hm3'
       have hz3':=hm3'.size
       clear hcall hP
       go_wp2_with fail
       refine (ct _ hr3').mono ?_;rintro e w4 ⟨rfl,hr4,hm4⟩
       have hcb4:w4.cell? ⟨w.heap.size,0,none⟩=some (.pointer (some ⟨d,0,none⟩)):=by rw [(cells_mut hm4 (b:=w.heap.size) (by omega) (by omega)).1];exact hcb3
       have hz4:=hm4.size
       go_wp2_with fail
       refine (ct2 _ hr4).mono ?_;rintro e w5 ⟨rfl,hr5,hm5⟩
       replace hr5:RdL d s (r.drop 1) (o+1:Nat) w5:=hr5
       have hcb5:w5.cell? ⟨w.heap.size,0,none⟩=some (.pointer (some ⟨d,0,none⟩)):=by rw [(cells_mut hm5 (b:=w.heap.size) (by omega) (by omega)).1];exact hcb4
       have hz5:=hm5.size
       clear ct ct2
       go_wp2_with fail
       go_roundw
       case rel=>exact ⟨g,Bl,r.drop 1,st',hr5,hcb5,hIm _ _ _ _ (by omega) hI3 (hm4.trans (hm5.mono (by omega))),hml.trans ((hm3'.mono (by omega)).trans (MutX.of_mut ((hm4.mono (by omega)).trans (hm5.mono (by omega))))),hBl,by omega,HR,by rw [List.length_drop];have:=HLR.out;omega,by have:=HLR.out;omega⟩
       case measure=>rw [hleft.out,left_rd hr5,List.length_drop];have:=HLR.out;omega
      | false =>
       have HR:=Lib.hid (HQ.out.symm.trans (loopG_wrong hst hp1 hp2))
       have ct2:∀ W,RdL d s r (o+1:Nat) W→_:=fun W h=>take_no d s ⟨#[44]⟩ r _ W h hp2
       clear hst HQ hread hp1 hp2
       go_wp2_with fail
       refine hcall.mono ?_;rintro e w3 ⟨hm3',rfl,hI3,hr3'⟩
       have hcb3:=hP w3 hm3'
       have hz3':=hm3'.size
       clear hcall hP
       go_wp2_with fail
       refine (ct _ hr3').mono ?_;rintro e w4 ⟨rfl,hr4,hm4⟩
       have hcb4:w4.cell? ⟨w.heap.size,0,none⟩=some (.pointer (some ⟨d,0,none⟩)):=by rw [(cells_mut hm4 (b:=w.heap.size) (by omega) (by omega)).1];exact hcb3
       have hz4:=hm4.size
       go_wp2_with fail
       refine (ct2 _ hr4).mono ?_;rintro e w5 ⟨rfl,hr5,hm5⟩
       have hcb5:w5.cell? ⟨w.heap.size,0,none⟩=some (.pointer (some ⟨d,0,none⟩)):=by rw [(cells_mut hm5 (b:=w.heap.size) (by omega) (by omega)).1];exact hcb4
       have hz5:=hm5.size
       clear ct ct2
       go_wp2_with fail
       refine Fin.out _ _ _ w5 rfl hr5 hcb5 (by omega) (fun W' hm' hr'=>⟨hml.trans ((hm3'.mono (by omega)).trans (MutX.of_mut ((hm4.mono (by omega)).trans ((hm5.mono (by omega)).trans (hm'.mono (by omega)))))),?_⟩)
       rw [HR.out]
       exact ⟨rfl,_,hr'⟩
end Go.Proofs.YtpbnhnilfpoljaaGreatDoor.V
namespace Go.Proofs.YtpbnhnilfpoljaaGreatDoor.V
open Go.RowKit
open Go.Lib
def CellsAt (W:World) (g off:Nat) (xs:List Value):Prop:=∀ j u,xs[j]?=some u→W.cell? ⟨g,off+j,none⟩=some u
def strCell (k:List UInt8):Value:=.string ⟨k.toArray⟩
def KeysIn (W:World) (R:Nat→Prop) (ks:List (List UInt8)) (kv:Value):Prop :=
 ∃ a cap,kv=.slice a ks.length cap∧(ks=[]∨∃ g off,a=some ⟨g,off,none⟩∧R g∧CellsAt W g off (ks.map strCell))
def six (so:Int) (on:Bool) (n:Int) (t:List UInt8) (lv kv:Value):List Value:=[.int .i64 so,.bool on,.int .i64 n,strCell t,lv,kv]
def six':Val→Value→Value→List Value
 | .mk so on n t _ _,lv,kv=>six so on n t lv kv
mutual
def ValIn (W:World) (R:Nat→Prop):Val→Value→Value→Prop
 | .mk _ _ _ _ l ks,lv,kv=>(∃ a cap,lv=.slice a l.length cap∧(l=[]∨∃ g off xs,a=some ⟨g,off,none⟩∧R g∧CellsAt W g off xs∧ListIn W R l xs))∧KeysIn W R ks kv
def ListIn (W:World) (R:Nat→Prop):List Val→List Value→Prop
 | [],xs=>xs=[]
 | v :: r,xs=>∃ lv kv rest,xs=six' v lv kv++rest∧ValIn W R v lv kv∧ListIn W R r rest
end
def Same (R:Nat→Prop) (W W':World):Prop:=∀ g,R g→g<W.heap.size→W'.heap[g]?=W.heap[g]?
theorem CellsAt.later {W W':World} {R:Nat→Prop} {g off:Nat} {xs:List Value} (h:CellsAt W g off xs) (hR:R g) (hs:Same R W W'):CellsAt W' g off xs:=by
 intro j u hj
 have h1:=h j u hj
 have hlt:g<W.heap.size:=World.block_lt_of_cell? W _ h1
 have h2:=hs g hR hlt
 unfold World.cell? at h1 ⊢
 rw [h2];exact h1
theorem KeysIn.later {W W':World} {R R':Nat→Prop} {ks:List (List UInt8)} {kv:Value} (h:KeysIn W R ks kv) (hs:Same R W W') (hR:∀ g,R g→R' g):KeysIn W' R' ks kv:=by
 obtain ⟨a,cap,h1,h2⟩:=h
 refine ⟨a,cap,h1,h2.imp id fun ⟨g,off,h3,h4,h5⟩=>⟨g,off,h3,hR g h4,h5.later h4 hs⟩⟩
mutual
theorem ValIn.later {W W':World} {R R':Nat→Prop} (hs:Same R W W') (hR:∀ g,R g→R' g):∀ (v:Val) (lv kv:Value),ValIn W R v lv kv→ValIn W' R' v lv kv
 | .mk so on n t l ks,lv,kv,h=>by
  obtain ⟨⟨a,cap,h1,h2⟩,hk⟩:=h
  refine ⟨⟨a,cap,h1,?_⟩,hk.later hs hR⟩
  rcases h2 with h2|⟨g,off,xs,h3,h4,h5,h6⟩
  ·exact .inl h2
  ·exact .inr ⟨g,off,xs,h3,hR g h4,h5.later h4 hs,ListIn.later hs hR l xs h6⟩
theorem ListIn.later {W W':World} {R R':Nat→Prop} (hs:Same R W W') (hR:∀ g,R g→R' g):∀ (l:List Val) (xs:List Value),ListIn W R l xs→ListIn W' R' l xs
 | [],xs,h=>h
 | v :: r,xs,h=>by
  obtain ⟨lv,kv,rest,h1,h2,h3⟩:=h
  exact ⟨lv,kv,rest,h1,ValIn.later hs hR v lv kv h2,ListIn.later hs hR r rest h3⟩
end
theorem six_length (v:Val) (lv kv:Value):(six' v lv kv).length=6:=by cases v;rfl
theorem ListIn.length {W:World} {R:Nat→Prop}:∀ {l:List Val} {xs:List Value},ListIn W R l xs→xs.length=6*l.length
 | [],xs,h=>by have h:xs=[]:=h;subst h;rfl
 | v :: r,xs,h=>by
  obtain ⟨lv,kv,rest,rfl,_,h3⟩:=h
  have:=ListIn.length h3
  rw [List.length_append,six_length,this];simp;omega
theorem ListIn.snoc {W:World} {R:Nat→Prop}:∀ {l:List Val} {xs:List Value} {v:Val} {lv kv:Value},ListIn W R l xs→ValIn W R v lv kv→ListIn W R (l++[v]) (xs++six' v lv kv)
 | [],xs,v,lv,kv,h,hv=>by
  have h:xs=[]:=h
  subst h
  exact ⟨lv,kv,[],by simp,hv,rfl⟩
 | u :: r,xs,v,lv,kv,h,hv=>by
  obtain ⟨lv',kv',rest,rfl,h2,h3⟩:=h
  exact ⟨lv',kv',rest++six' v lv kv,by simp,h2,ListIn.snoc h3 hv⟩
def ReadsV (d:Nat) (s:ByteArray) (o:Int) (r:Res Val) (w:World) (e:Ending) (w':World):Prop :=
 Mut w.heap.size d w w'∧match r with
 | .ok (.mk so on n t l ks) rest=>∃ lv kv,e=.returned (.tuple #[.agg (six so on n t lv kv).toArray,.int .i64 0])∧ValIn w' (fun g=>w.heap.size≤g) (.mk so on n t l ks) lv kv∧RdL d s rest o w'
 | .bad=>e=.returned (.tuple #[.agg (six 0 false 0 [] (.slice none 0 0) (.slice none 0 0)).toArray,.int .i64 21])∧∃ l,RdL d s l o w'
 | .deep=>e=.returned (.tuple #[.agg (six 0 false 0 [] (.slice none 0 0) (.slice none 0 0)).toArray,.int .i64 22])∧∃ l,RdL d s l o w'
end Go.Proofs.YtpbnhnilfpoljaaGreatDoor.V
namespace Go.Proofs.YtpbnhnilfpoljaaGreatDoor.V
open Go.RowKit
open Go.Lib
def ReadsE (d b:Nat) (s:ByteArray) (o:Int) (so:Int) (kv lv:Value) (A:Nat→Prop) (Bl:Nat) (vs:List Val) (r:Res Val) (w:World) (e:Ending) (w':World):Prop :=
 match r with
 | .ok v rest=>e=.returned (.int .i64 0)∧RdL d s rest o w'∧MutX w.heap.size d (fun k=>k=b∨lv.ownBlock=some k) w w' ∧
   ∃ lv' xs',w'.heap[b]?=some (.cells (six so false 0 [] lv' kv).toArray 36 (0,0))∧w'.ownsRow Bl 36 6 lv' (vs.length+1) xs' ∧
    ListIn w' (fun g=>Bl≤g∧lv'.ownBlock≠some g∧¬ A g) (vs++[v]) xs'∧(lv'.ownBlock=lv.ownBlock∨∀ g,lv'.ownBlock=some g→w.heap.size≤g)
 | .bad=>e=.returned (.int .i64 21)∧(∃ l,RdL d s l o w')∧Mut w.heap.size d w w'
 | .deep=>e=.returned (.int .i64 22)∧(∃ l,RdL d s l o w')∧Mut w.heap.size d w w'
mutual
theorem ValIn.bound {W:World} {R:Nat→Prop}:∀ (v:Val) (lv kv:Value),ValIn W R v lv kv→ValIn W (fun g=>R g∧g<W.heap.size) v lv kv
 | .mk so on n t l ks,lv,kv,h=>by
  obtain ⟨⟨a,cap,h1,h2⟩,a2,cap2,h3,h4⟩:=h
  refine ⟨⟨a,cap,h1,?_⟩,a2,cap2,h3,?_⟩
  ·rcases h2 with h2|⟨g,off,xs,h5,h6,h7,h8⟩
   ·exact .inl h2
   ·cases l with
    | nil=>exact .inl rfl
    | cons v r =>
     have hx:∃ u,xs[0]?=some u:=by
      obtain ⟨lv',kv',rest,rfl,_,_⟩:=h8
      cases v;exact ⟨_,rfl⟩
     obtain ⟨u,hu⟩:=hx
     exact .inr ⟨g,off,xs,h5,⟨h6,World.block_lt_of_cell? W _ (h7 0 u hu)⟩,h7,ListIn.bound (v :: r) xs h8⟩
  ·rcases h4 with h4|⟨g,off,h5,h6,h7⟩
   ·exact .inl h4
   ·cases ks with
    | nil=>exact .inl rfl
    | cons k r=>exact .inr ⟨g,off,h5,⟨h6,World.block_lt_of_cell? W _ (h7 0 _ rfl)⟩,h7⟩
theorem ListIn.bound {W:World} {R:Nat→Prop}:∀ (l:List Val) (xs:List Value),ListIn W R l xs→ListIn W (fun g=>R g∧g<W.heap.size) l xs
 | [],xs,h=>h
 | v :: r,xs,h=>by
  obtain ⟨lv,kv,rest,h1,h2,h3⟩:=h
  exact ⟨lv,kv,rest,h1,ValIn.bound v lv kv h2,ListIn.bound r rest h3⟩
end
def set6 (cur:Array Value) (k:Nat) (a0 a1 a2 a3 a4 a5:Value):Array Value :=
 (((((cur.setIfInBounds k a0).setIfInBounds (k+1) a1).setIfInBounds (k+2) a2).setIfInBounds (k+3) a3).setIfInBounds (k+4) a4).setIfInBounds (k+5) a5
theorem set6_size (cur:Array Value) (k:Nat) (a0 a1 a2 a3 a4 a5:Value):(set6 cur k a0 a1 a2 a3 a4 a5).size=cur.size:=by simp [set6]
theorem set6_take (cur:Array Value) (n:Nat) (xs:List Value) (a0 a1 a2 a3 a4 a5 z0 z1 z2 z3 z4 z5:Value) (hx:xs.length=n*6) (h:cur.toList.take ((n+1)*6)=xs++[z0,z1,z2,z3,z4,z5]) :
  (set6 cur (n*6) a0 a1 a2 a3 a4 a5).toList.take ((n+1)*6)=xs++[a0,a1,a2,a3,a4,a5]:=by
 unfold set6
 simp only [Array.toList_setIfInBounds,List.take_set,h,← hx]
 rw [List.set_append_right _ _ (by omega),List.set_append_right _ _ (by omega),List.set_append_right _ _ (by omega),List.set_append_right _ _ (by omega),List.set_append_right _ _ (by omega),List.set_append_right _ _ (by omega)]
 simp
structure PutIn (gg b k:Nat) (a0 a1 a2 a3 a4 a5 lv:Value) (w W':World):Prop where
 os:W'.os=w.os
 tape:W'.tape=w.tape
 output:W'.output=w.output
 size:W'.heap.size=w.heap.size
 row:∀ cur,w.heap[gg]?=some (.cells cur 36 (0,0))→W'.heap[gg]?=some (.cells (set6 cur k a0 a1 a2 a3 a4 a5) 36 (0,0))
 val:∀ c0 c1 c2 c3 c4 c5,w.heap[b]?=some (.cells #[c0,c1,c2,c3,c4,c5] 36 (0,0))→W'.heap[b]?=some (.cells #[c0,c1,c2,c3,lv,c5] 36 (0,0))
 far:∀ j,j≠gg→j≠b→W'.heap[j]?=w.heap[j]?
theorem sc_os (w:World) (p:Addr) (v:Value):(w.setCell p v).os=w.os:=rfl
theorem sc_tape (w:World) (p:Addr) (v:Value):(w.setCell p v).tape=w.tape:=rfl
theorem sc_out (w:World) (p:Addr) (v:Value):(w.setCell p v).output=w.output:=rfl
theorem sc_size (w:World) (p:Addr) (v:Value):(w.setCell p v).heap.size=w.heap.size:=by simp [World.setCell]
theorem putIn_a (gg b k:Nat) (a0 a1 a2 a3 a4 a5 lv:Value) (w:World) (h:gg≠b) :
  PutIn gg b k a0 a1 a2 a3 a4 a5 lv w (((((((w.setCell ⟨gg,k,none⟩ a0).setCell ⟨gg,k+1,none⟩ a1).setCell ⟨gg,k+2,none⟩ a2).setCell ⟨gg,k+3,none⟩ a3).setCell ⟨gg,k+4,none⟩ a4).setCell ⟨gg,k+5,none⟩ a5).setCell ⟨b,4,none⟩ lv):=by
 refine ⟨by simp only [sc_os],by simp only [sc_tape],by simp only [sc_out],by simp only [sc_size],fun cur hc=>?_,fun c0 c1 c2 c3 c4 c5 hc=>?_,fun j hj hb=>?_⟩
 ·rw [Below.heap_setCell _ _ _ _ h]
  have e0:=Go.Joins.block_setCell (i:=k) hc a0
  have e1:=Go.Joins.block_setCell (i:=k+1) e0 a1
  have e2:=Go.Joins.block_setCell (i:=k+2) e1 a2
  have e3:=Go.Joins.block_setCell (i:=k+3) e2 a3
  have e4:=Go.Joins.block_setCell (i:=k+4) e3 a4
  have e5:=Go.Joins.block_setCell (i:=k+5) e4 a5
  unfold set6
  exact e5
 ·refine Go.Joins.block_setCell (cs:=#[c0,c1,c2,c3,c4,c5]) ?_ lv
  rw [Below.heap_setCell _ _ _ _ (Ne.symm h),Below.heap_setCell _ _ _ _ (Ne.symm h),Below.heap_setCell _ _ _ _ (Ne.symm h),Below.heap_setCell _ _ _ _ (Ne.symm h),Below.heap_setCell _ _ _ _ (Ne.symm h),Below.heap_setCell _ _ _ _ (Ne.symm h)]
  exact hc
 ·rw [Below.heap_setCell _ _ _ _ hb,Below.heap_setCell _ _ _ _ hj,Below.heap_setCell _ _ _ _ hj,Below.heap_setCell _ _ _ _ hj,Below.heap_setCell _ _ _ _ hj,Below.heap_setCell _ _ _ _ hj,Below.heap_setCell _ _ _ _ hj]
theorem putIn_b (gg b k:Nat) (a0 a1 a2 a3 a4 a5 lv:Value) (w:World) (h:gg≠b) :
  PutIn gg b k a0 a1 a2 a3 a4 a5 lv w (((((((w.setCell ⟨b,4,none⟩ lv).setCell ⟨gg,k,none⟩ a0).setCell ⟨gg,k+1,none⟩ a1).setCell ⟨gg,k+2,none⟩ a2).setCell ⟨gg,k+3,none⟩ a3).setCell ⟨gg,k+4,none⟩ a4).setCell ⟨gg,k+5,none⟩ a5):=by
 refine ⟨by simp only [sc_os],by simp only [sc_tape],by simp only [sc_out],by simp only [sc_size],fun cur hc=>?_,fun c0 c1 c2 c3 c4 c5 hc=>?_,fun j hj hb=>?_⟩
 ·have hc2:(w.setCell ⟨b,4,none⟩ lv).heap[gg]?=some (.cells cur 36 (0,0)):=by rw [Below.heap_setCell _ _ _ _ h];exact hc
  have e0:=Go.Joins.block_setCell (i:=k) hc2 a0
  have e1:=Go.Joins.block_setCell (i:=k+1) e0 a1
  have e2:=Go.Joins.block_setCell (i:=k+2) e1 a2
  have e3:=Go.Joins.block_setCell (i:=k+3) e2 a3
  have e4:=Go.Joins.block_setCell (i:=k+4) e3 a4
  have e5:=Go.Joins.block_setCell (i:=k+5) e4 a5
  unfold set6
  exact e5
 ·rw [Below.heap_setCell _ _ _ _ (Ne.symm h),Below.heap_setCell _ _ _ _ (Ne.symm h),Below.heap_setCell _ _ _ _ (Ne.symm h),Below.heap_setCell _ _ _ _ (Ne.symm h),Below.heap_setCell _ _ _ _ (Ne.symm h),Below.heap_setCell _ _ _ _ (Ne.symm h)]
  exact Go.Joins.block_setCell (cs:=#[c0,c1,c2,c3,c4,c5]) hc lv
 ·rw [Below.heap_setCell _ _ _ _ hj,Below.heap_setCell _ _ _ _ hj,Below.heap_setCell _ _ _ _ hj,Below.heap_setCell _ _ _ _ hj,Below.heap_setCell _ _ _ _ hj,Below.heap_setCell _ _ _ _ hj,Below.heap_setCell _ _ _ _ hb]
theorem part_done {d b Bl gg n capg:Nat} {s:ByteArray} {rest:List UInt8} {o so:Int} {lv kv:Value} {xs:List Value} {vs:List Val} {vso vn:Int} {von:Bool} {vt:List UInt8} {vl:List Val} {vks:List (List UInt8)}
  {lv1 kv1 z0 z1 z2 z3 z4 z5:Value} {w w1 w2 w3 W':World} {zo:Obj}
  (hm1:Mut w.heap.size d w w1) (hbel2:Below w1.heap.size w1 w2) (hz2:w2.heap.size=w1.heap.size+1) (hgrow:(w2.alloc zo).drew.grownBy w3 lv.ownBlock)
  (hown:w.ownsRow Bl 36 6 lv n xs) (hn:n=vs.length)
  (hown3:w3.ownsRow Bl 36 6 (.slice (some ⟨gg,0,none⟩) (n+1) capg) (n+1) (xs++[z0,z1,z2,z3,z4,z5])) (hat:lv.ownBlock=some gg∨gg=w2.heap.size+1)
  {A:Nat→Prop} (hA:∀ g,A g→g<w.heap.size) (hin:ListIn w (fun g=>Bl≤g∧lv.ownBlock≠some g∧¬ A g) vs xs) (hv1:ValIn w1 (fun g=>w.heap.size≤g) (.mk vso von vn vt vl vks) lv1 kv1) (hr1:RdL d s rest o w1)
  (hb:w.heap[b]?=some (.cells (six so false 0 [] lv kv).toArray 36 (0,0)))
  (hdl:d<Bl) (hbl:b<Bl) (hdb:d≠b) (hBl:Bl≤w.heap.size)
  (hp:PutIn gg b (n*6) (.int .i64 vso) (.bool von) (.int .i64 vn) (.string ⟨vt.toArray⟩) lv1 kv1 (.slice (some ⟨gg,0,none⟩) (n+1) capg) w3 W') :
  ReadsE d b s o so kv lv A Bl vs (.ok (.mk vso von vn vt vl vks) rest) w (.returned (.int .i64 0)) W':=by
 have hrow:∀ k,lv.ownBlock=some k→Bl≤k∧k<w.heap.size:=fun k hk=>World.ownsRowF.lt (World.ownsRowF_of hown) k hk
 have hz1:=hm1.size
 have hggw:∀ k,k<w1.heap.size→lv.ownBlock≠some k→k≠gg:=fun k hk hne h=>by
  subst h;rcases hat with h|h
  ·exact hne h
  ·omega
 have far1:∀ k,k<w1.heap.size→lv.ownBlock≠some k→k≠b→W'.heap[k]?=w1.heap[k]?:=fun k hk hne hkb=>by
  rw [hp.far k (hggw k hk hne) hkb,hgrow.block k (by simp;omega) (fun h=>hne h.symm)]
  exact (Below.heap_alloc w2 zo k (by omega)).trans (hbel2.block k hk)
 have far0:∀ k,k<w.heap.size→k≠d→lv.ownBlock≠some k→k≠b→W'.heap[k]?=w.heap[k]?:=fun k hk hkd hne hkb =>
  (far1 k (by omega) hne hkb).trans (hm1.block k hk hkd)
 have hlvd:lv.ownBlock≠some d:=fun h=>by have:=hrow d h;omega
 have hlvb:lv.ownBlock≠some b:=fun h=>by have:=hrow b h;omega
 refine ⟨rfl,?_,?_,.slice (some ⟨gg,0,none⟩) (n+1) capg,xs++six vso von vn vt lv1 kv1,?_,?_,?_,?_⟩
 ·obtain ⟨a,h1,h2,h3⟩:=hr1
  exact ⟨a,h1,h2,(far1 d h3.lt hlvd hdb).trans h3⟩
 ·refine ⟨hp.os.trans (hgrow.os.trans (hbel2.os.trans hm1.os)),hp.tape.trans (hgrow.tape.trans (hbel2.tape.trans hm1.tape)),hp.output.trans (hgrow.output.trans (hbel2.output.trans hm1.output)),?_,fun k hk hkd hX=>far0 k hk hkd (fun h=>hX (.inr h)) (fun h=>hX (.inl h))⟩
  have:=hgrow.size
  simp at this
  rw [hp.size];omega
 ·have hb3:w3.heap[b]?=some (.cells (six so false 0 [] lv kv).toArray 36 (0,0)):=by
   have hbt:b<w.heap.size:=by omega
   rw [hgrow.block b (by simp;omega) (fun h=>hlvb h.symm)]
   exact ((Below.heap_alloc w2 zo b (by omega)).trans (hbel2.block b (by omega))).trans ((hm1.block b hbt (Ne.symm hdb)).trans hb)
  exact hp.val _ _ _ _ _ _ hb3
 ·rw [← hn]
  refine ⟨by rw [List.length_append,hown.1];simp [six];omega,.inr ?_⟩
  rcases hown3.2 with ⟨h2,_⟩|⟨g',cap',cur,he,hg,hgg,hle,hcap,hsz,htake⟩
  ·cases h2
  ·cases he
   exact ⟨gg,capg,_,rfl,hg,hp.row _ hgg,hle,hcap,by rw [set6_size];exact hsz,set6_take cur n xs _ _ _ _ _ _ z0 z1 z2 z3 z4 z5 hown.1 htake⟩
 ·have hgB:Bl≤gg:=by
   rcases hown3.2 with ⟨h2,_⟩|⟨g',cap',cur,he,hg,_⟩
   ·cases h2
   ·cases he;exact hg
  refine ListIn.snoc (v:=.mk vso von vn vt vl vks) ?_ ?_
  ·refine ListIn.later (R:=fun g=>(Bl≤g∧lv.ownBlock≠some g∧¬ A g)∧g<w.heap.size) (fun g hg hlt=>far0 g hlt (by omega) hg.1.2.1 (by omega)) (fun g hg=>⟨hg.1.1,fun h=>?_,hg.1.2.2⟩) vs xs (ListIn.bound vs xs hin)
   have h:gg=g:=by simpa [Value.ownBlock] using h
   exact hggw g (by omega) hg.1.2.1 h.symm
  ·refine ValIn.later (R:=fun g=>w.heap.size≤g∧g<w1.heap.size) (fun g hg hlt=>far1 g hlt (fun h=>by have:=hrow g h;omega) (by omega)) (fun g hg=>⟨by omega,fun h=>?_,fun h=>by have:=hA g h;omega⟩) _ _ _ (ValIn.bound _ _ _ hv1)
   have h:gg=g:=by simpa [Value.ownBlock] using h
   exact hggw g hg.2 (fun h=>by have:=hrow g h;omega) h.symm
 ·rcases hat with h|h
  ·exact .inl (by rw [h];rfl)
  ·refine .inr fun g hg=>?_
   have hg:gg=g:=by simpa [Value.ownBlock] using hg
   omega
end Go.Proofs.YtpbnhnilfpoljaaGreatDoor.V
