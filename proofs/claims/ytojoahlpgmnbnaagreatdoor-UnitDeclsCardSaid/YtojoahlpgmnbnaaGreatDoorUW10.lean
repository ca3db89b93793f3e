/- What the claim needs of the texts KRead, PPlain, PSmall, PSpan, PBlk, PMark, Shelf, PStep, Lays, WalksR, PScan. -/
import Derived.Test.YtojoahlpgmnbnaaGreatDoorUWOp
import Derived.Test.YtojoahlpgmnbnaaGreatDoorUW9
import Derived.Deep.LoopGhost
import Derived.Test.YtojoahlpgmnbnaaGreatDoorUW2
import Derived.Laws.AppendOwn
import Derived.Maps.AppendAt
import Derived.Deep.DeepMust
import Derived.Laws.Pointers
import Derived.Deep.RegionHeld3
import Derived.Deep.RegionWith
import Derived.Lib.SmallJoins
import Derived.BigRegion
import Derived.Deep.DeepCutAuto
import Derived.Shelf.LaysM
import Derived.Shelf.Strconv.Clone
import Derived.Shelf.Strings.Prefix
import Derived.Test.YtojoahlpgmnbnaaGreatDoorProg
import Derived.Shelf.Unicode.ValidAny
import Derived.Test.YtojoahlpgmnbnaaGreatDoorUW1
import Derived.WalkKit
import Derived.WalkMore
import Derived.WalkSmall
import Derived.Below
import Derived.Lib.Hide
set_option maxRecDepth 20000
set_option maxHeartbeats 16000000
namespace Go.Proofs.YtojoahlpgmnbnaaGreatDoor
namespace K
open Go.RowKit
open Go.Lib hiding intOf
open U S T
section
variable {d:Nat} {L:List bn} {size:Nat} {lv:Value} {s:St} {O:Nat→Prop}
theorem oF {O':Nat→Prop} {W X:World} {b j:Nat} {v:Value} (h:bN O O' W X) (hb:W.heap.size≤b):bN O O' W (X.setCell ⟨b,j,none⟩ v) :=
 ⟨h.os,h.tape,h.output,by simp;exact h.size,h.own,fun k hk hO=>(aj _ _ _ _ (by show k≠b;omega)).trans (h.block k hk hO)⟩
def RL:Value:=.agg #[.string ⟨#[]⟩,.string ⟨#[]⟩,.int .i64 0,.int .i64 0,.slice none 0 0]
def Told (L:List bn) (size:Nat) (O:Nat→Prop) (W:World):xA→Ending→World→Prop
 | .part p,e,W'=>∃ qF O',e=.returned (.tuple #[.agg (five p qF).toArray,.int .i64 0,.int .i64 0])∧aU W' (Fr O' W') p qF∧bN O O' W W'
 | .bad j,e,W'=>∃ O',e=.returned (.tuple #[RL,.int .i64 (tok L size j).f,.int .i64 101])∧bN O O' W W'
theorem Bi {W:World} {B:Nat} {t:TypeId} (h:W.heap[B]?=some (.cells #[.string ⟨#[]⟩,.string ⟨#[]⟩,.int .i64 0,.int .i64 0,.slice none 0 0] t (0,0))) (off:Nat) (k:By) (hk:k≠[]):W.cell? ⟨B,off,none⟩≠some (.string (aX k)):=by
 have hs:(⟨#[]⟩:ByteArray)≠aX k:=fun e=>hk (by
  have:=congrArg (fun b:ByteArray=>b.data.toList) e
  simpa [aX] using this.symm)
 intro h1
 unfold World.cell? at h1
 rw [h] at h1
 rcases off with _|_|_|_|_|n
 ·simp at h1;exact hs h1
 ·simp at h1;exact hs h1
 ·simp at h1
 ·simp at h1
 ·simp at h1
 ·simp at h1
theorem Fs {W:World} {B:Nat} {t:TypeId} {ik:IntKind} {z:Int} (h:W.heap[B]?=some (.cells #[.int ik z] t (0,0))) (off:Nat) (k:By):W.cell? ⟨B,off,none⟩≠some (.string (aX k)):=by
 intro h1
 unfold World.cell? at h1
 rw [h] at h1
 rcases off with _|n
 ·simp at h1
 ·simp at h1
theorem zl {W:World} (hM:Mem d L size lv ⟨0,[],[root]⟩ O W) (hL:∀ t∈L,vN t) (hl:L.length≤1660) (hG:EF O W) :
  Calls Tryz.prog 76 #[ptr d] W (Told L size O W (pg L)):=by
 have oD:=oD;have HR:=hid (JB (size:=size) hL);have HN:=hid (fun p (h:pg L=.part p)=>Cc h);obtain ⟨fa,hfa⟩:∃ fa,pg L=fa:=⟨_,rfl⟩;rw [hfa] at HR HN ⊢;clear hfa
 go_enter_defers Tryz.func76,Tryz.ntmps76
 go_wp2_with fail
 obtain ⟨V,hV⟩:∃ V,((W.alloc (.cells #[.string ⟨#[]⟩,.string ⟨#[]⟩,.int .i64 0,.int .i64 0,.slice none 0 0] 49)).alloc (.cells #[.int .i64 0] 3)).alloc (.cells #[.int .i64 0] 50)=V:=⟨_,rfl⟩
 have T8:Below W.heap.size W V:=by rw [← hV];exact (((ah _ _).alloc (ae _) _).alloc (by simp) _).alloc (by simp;omega) _
 have Oa:V.heap.size=W.heap.size+1+1+1:=by rw [← hV];simp
 have hp2:V.heap[W.heap.size+1+1]?=some (.cells #[.int .i64 0] 50 (0,0)):=by
  rw [← hV];have h:=fI ((W.alloc (.cells #[.string ⟨#[]⟩,.string ⟨#[]⟩,.int .i64 0,.int .i64 0,.slice none 0 0] 49)).alloc (.cells #[.int .i64 0] 3)) (.cells #[.int .i64 0] 50);simp only [aT] at h
  exact h
 have hp1:V.heap[W.heap.size+1]?=some (.cells #[.int .i64 0] 3 (0,0)):=by
  rw [← hV,dw _ _ _ (by simp)];have h:=fI (W.alloc (.cells #[.string ⟨#[]⟩,.string ⟨#[]⟩,.int .i64 0,.int .i64 0,.slice none 0 0] 49)) (.cells #[.int .i64 0] 3);simp only [aT] at h
  exact h
 have hp0:V.heap[W.heap.size]?=some (.cells #[.string ⟨#[]⟩,.string ⟨#[]⟩,.int .i64 0,.int .i64 0,.slice none 0 0] 49 (0,0)):=by
  rw [← hV,dw _ _ _ (by simp;omega),dw _ _ _ (by simp)]
  exact fI _ _
 rw [hV];have hMV:=hM.below T8;have ct:=dH hMV [.m .decl,.m .vL,.m .nJ] [.func (.func 101) #[ptr d] #[],.func (.func 102) #[ptr d] #[],.func (.func 103) #[ptr d] #[]] 3 rfl ⟨_,_,rfl,rfl,⟨_,_,rfl,rfl,⟨_,_,rfl,rfl,rfl⟩⟩⟩ (by decide) (aM _);rw [Oa] at ct
 have hnO:∀ k,W.heap.size≤k→¬ O k:=fun k hk hO=>by have:=hM.lt k hO;omega
 have HF0:=hid (show Fr O V W.heap.size from ⟨by omega,hnO _ (ae _),_,hp0,rfl⟩);have EH:=hid (show Fr O V (W.heap.size+1) from ⟨by omega,hnO _ (by omega),_,hp1,rfl⟩);have HF2:=hid (show Fr O V (W.heap.size+1+1) from ⟨by omega,hnO _ (by omega),_,hp2,rfl⟩);have Yw:=hid (hG.stay (bN.of_below T8));have HV:=hid T8;have HP:=hid (And.intro hp0 (And.intro hp1 hp2));clear hV T8 Oa hp0 hp1 hp2 hnO hMV hM hG;refine ct.mono ?_;rintro e w1 ⟨rfl,O1,hM1,hS1⟩;dsimp only;have dN:=hid hM1;have GH:=hid hS1;have HG1:=hid (Yw.out.stay hS1);have HL:=hid hL;have Hl:=hid hl;clear ct hM1 hS1 Yw hL hl
 go_wp2_with fail
 go_loopg [] (100*L.length+100) (fun k wr=>∃ (m:Nat) (s:St) (O2:Nat→Prop),Hid (Comes L size k s fa)∧Hid (Sz m s)∧Hid (m+k≤100*L.length+100)∧Hid (wu L s)∧Hid (Mem d L size lv s O2 wr)∧Hid (bN O O2 V wr)∧Hid (EF O2 wr))
 case atStart=>exact ⟨0,begun,O1,HR,hid Rv,hid (by omega),hid Dl,dN,GH,HG1⟩
 case round =>
  obtain ⟨m,s,O2,HC,HZ,HB,HOk,kG,HS2,P9⟩:=hrel;clear dN GH HG1
  by_cases ht:s.todo=[]
  ·obtain ⟨sa,sc,k2⟩:=OG kG.out ht
   have HT:=hid ht;obtain ⟨p,f,rfl,hop⟩:=OE HC.out ht;obtain ⟨tv,ov,bs,vs,xs,hX⟩:=id kG.out;obtain ⟨tg,tc,tkv,ks,lT,o8,GX⟩:=lC hX hop;have cT:=kV hX GX (aM _) (ah _ _);have abd:=hid GX;clear ht hX GX hop
   go_wp2_with fail
   refine cT.mono ?_;rintro e w2 ⟨rfl,m2,rfl⟩;dsimp only;have GX:=abd.out.drewN m2;have KC:Hid (bN O O2 V (wr.drewN m2)):=hid (HS2.out.trans (bN.of_below (jY wr m2)));have k4:=GX.cell 4 _ rfl
   obtain ⟨qF,abe⟩:∃ qF,ks=five p qF∧aU (wr.drewN m2) (Fr O2 (wr.drewN m2)) p qF:=by
    obtain ⟨qF,rest,h1,h2,h3⟩:=GX.parts;obtain rfl:rest=[]:=h3
    exact ⟨qF,by rw [h1,eu],h2⟩
   have bP:=GX.own;clear cT abd;generalize wr.drewN m2=W2 at k4 GX KC abe bP ⊢;obtain ⟨rfl,Al⟩:=abe;obtain ⟨pa,pn,pc,rfl⟩:=eD Al;obtain ⟨q0,q1,q2,q3,h5⟩:=Ab p (.slice pa pn pc);have hlen1:(root.add p f).kids.length=0+1:=rfl;rw [hlen1] at bP;obtain ⟨kg,kc,rfl,_,hkl⟩:=bP.form (dW _)
   have c0:W2.cell? ⟨kg,0,none⟩=some (.string q0):=by rw [bP.cellAt 0 (by decide),h5];rfl
   have c1:W2.cell? ⟨kg,1,none⟩=some (.string q1):=by rw [bP.cellAt 1 (by decide),h5];rfl
   have c2:W2.cell? ⟨kg,2,none⟩=some (.int .i64 q2):=by rw [bP.cellAt 2 (by decide),h5];rfl
   have c3:W2.cell? ⟨kg,3,none⟩=some (.int .i64 q3):=by rw [bP.cellAt 3 (by decide),h5];rfl
   have c4:W2.cell? ⟨kg,4,none⟩=some (.slice pa pn pc):=by rw [bP.cellAt 4 (by decide),h5];rfl
   replace k4:W2.cell? ⟨tg,4,none⟩=some (.slice (some ⟨kg,0,none⟩) (0+1) kc):=k4;have b0:=(KC.out.at HF0.out).trans HP.out.1;have b1:=(KC.out.at EH.out).trans HP.out.2.1;have b2:=(KC.out.at HF2.out).trans HP.out.2.2;obtain ⟨B,hB⟩:∃ B,W.heap.size=B:=⟨_,rfl⟩;have HBe:=hid hB;rw [hB] at b0 b1 b2 ⊢;clear hB
   have z0:W2.cell? ⟨B,0,none⟩=some (.string ⟨#[]⟩):=by simp [World.cell?,b0]
   have z1:W2.cell? ⟨B,1,none⟩=some (.string ⟨#[]⟩):=by simp [World.cell?,b0]
   have z2:W2.cell? ⟨B,2,none⟩=some (.int .i64 0):=by simp [World.cell?,b0]
   have z3:W2.cell? ⟨B,3,none⟩=some (.int .i64 0):=by simp [World.cell?,b0]
   have z4:W2.cell? ⟨B,4,none⟩=some (.slice none 0 0):=by simp [World.cell?,b0]
   have fz:∀ j,W2.frozen? ⟨B,j,none⟩=false:=fun j=>by simp [World.frozen?,b0]
   have z5:W2.cell? ⟨B+1,0,none⟩=some (.int .i64 0):=by simp [World.cell?,b1]
   have z6:W2.cell? ⟨B+1+1,0,none⟩=some (.int .i64 0):=by simp [World.cell?,b2]
   have fz1:W2.frozen? ⟨B+1,0,none⟩=false:=by simp [World.frozen?,b1]
   have fz2:W2.frozen? ⟨B+1+1,0,none⟩=false:=by simp [World.frozen?,b2]
   have HK:=hid Al;have H5:=hid h5;clear GX bP Al h5 hkl hlen1
   go_wp2_with fail
   refine leaves_cons (f:=99) (args:=#[.pointer (some ⟨B+1,0,none⟩),.pointer (some ⟨B+1+1,0,none⟩)]) (by simp) (by simp [go_sem]) ?_;refine (LD _ _ _).mono ?_;rintro e u' w'' ⟨rfl,rfl,rfl⟩
   have WX:∀ k,B≤k→W.heap.size≤k:=fun k hk=>by have:=HBe.out;omega
   have s0:=ay b0 (i:=0) (.string q0);have s1:((W2.setCell ⟨B,0,none⟩ (.string q0)).setCell ⟨B,1,none⟩ (.string q1)).heap[B]?=some (.cells #[.string q0,.string q1,.int .i64 0,.int .i64 0,.slice none 0 0] 49 (0,0)):=ay s0 (.string q1);have s2:(((W2.setCell ⟨B,0,none⟩ (.string q0)).setCell ⟨B,1,none⟩ (.string q1)).setCell ⟨B,2,none⟩ (.int .i64 q2)).heap[B]?=some (.cells #[.string q0,.string q1,.int .i64 q2,.int .i64 0,.slice none 0 0] 49 (0,0)):=ay s1 (.int .i64 q2);have s3:((((W2.setCell ⟨B,0,none⟩ (.string q0)).setCell ⟨B,1,none⟩ (.string q1)).setCell ⟨B,2,none⟩ (.int .i64 q2)).setCell ⟨B,3,none⟩ (.int .i64 q3)).heap[B]?=some (.cells #[.string q0,.string q1,.int .i64 q2,.int .i64 q3,.slice none 0 0] 49 (0,0)):=ay s2 (.int .i64 q3);have s4:(((((W2.setCell ⟨B,0,none⟩ (.string q0)).setCell ⟨B,1,none⟩ (.string q1)).setCell ⟨B,2,none⟩ (.int .i64 q2)).setCell ⟨B,3,none⟩ (.int .i64 q3)).setCell ⟨B,4,none⟩ (.slice pa pn pc)).heap[B]?=some (.cells #[.string q0,.string q1,.int .i64 q2,.int .i64 q3,.slice pa pn pc] 49 (0,0)):=ay s3 (.slice pa pn pc)
   have pX:∀ k,k≠B→(((((W2.setCell ⟨B,0,none⟩ (.string q0)).setCell ⟨B,1,none⟩ (.string q1)).setCell ⟨B,2,none⟩ (.int .i64 q2)).setCell ⟨B,3,none⟩ (.int .i64 q3)).setCell ⟨B,4,none⟩ (.slice pa pn pc)).heap[k]?=W2.heap[k]?:=fun k hk =>
    (aj _ _ _ _ hk).trans ((aj _ _ _ _ hk).trans ((aj _ _ _ _ hk).trans ((aj _ _ _ _ hk).trans (aj _ _ _ _ hk))))
   have EB:bN O O2 W (((((W2.setCell ⟨B,0,none⟩ (.string q0)).setCell ⟨B,1,none⟩ (.string q1)).setCell ⟨B,2,none⟩ (.int .i64 q2)).setCell ⟨B,3,none⟩ (.int .i64 q3)).setCell ⟨B,4,none⟩ (.slice pa pn pc)) :=
    oF (oF (oF (oF (oF ((bN.of_below HV.out).trans KC.out) (WX _ (ae _))) (WX _ (ae _))) (WX _ (ae _))) (WX _ (ae _))) (WX _ (ae _))
   have Et:(((((W2.setCell ⟨B,0,none⟩ (.string q0)).setCell ⟨B,1,none⟩ (.string q1)).setCell ⟨B,2,none⟩ (.int .i64 q2)).setCell ⟨B,3,none⟩ (.int .i64 q3)).setCell ⟨B,4,none⟩ (.slice pa pn pc)).heap.size=W2.heap.size:=by simp
   generalize ((((W2.setCell ⟨B,0,none⟩ (.string q0)).setCell ⟨B,1,none⟩ (.string q1)).setCell ⟨B,2,none⟩ (.int .i64 q2)).setCell ⟨B,3,none⟩ (.int .i64 q3)).setCell ⟨B,4,none⟩ (.slice pa pn pc)=W5 at s4 pX EB Et ⊢;obtain ⟨Wf,hWf⟩:∃ X,(W5.setCell ⟨B+1,0,none⟩ (.int .i64 0)).setCell ⟨B+1+1,0,none⟩ (.int .i64 0)=X:=⟨_,rfl⟩
   have Yx:∀ k,k≠B→k≠B+1→k≠B+1+1→Wf.heap[k]?=W2.heap[k]?:=fun k h1 h2 h3=>by rw [← hWf];exact (aj _ _ _ _ h3).trans ((aj _ _ _ _ h2).trans (pX k h1))
   have f0:Wf.heap[B]?=some (.cells #[.string q0,.string q1,.int .i64 q2,.int .i64 q3,.slice pa pn pc] 49 (0,0)):=by rw [← hWf];exact (aj _ _ _ _ (by show B≠B+1+1;omega)).trans ((aj _ _ _ _ (by show B≠B+1;omega)).trans s4)
   have e1:W5.heap[B+1]?=some (.cells #[.int .i64 0] 3 (0,0)):=(pX _ (by omega)).trans b1;have e2:W5.heap[B+1+1]?=some (.cells #[.int .i64 0] 50 (0,0)):=(pX _ (by omega)).trans b2;have g1:=ay e1 (i:=0) (.int .i64 0);have g2:(W5.setCell ⟨B+1,0,none⟩ (.int .i64 0)).heap[B+1+1]?=_:=(aj _ _ _ _ (by show B+1+1≠B+1;omega)).trans e2
   have f1:Wf.heap[B+1]?=some (.cells #[.int .i64 0] 3 (0,0)):=by rw [← hWf];exact (aj _ _ _ _ (by show B+1≠B+1+1;omega)).trans g1
   have f2:Wf.heap[B+1+1]?=some (.cells #[.int .i64 0] 50 (0,0)):=by rw [← hWf];exact ay g2 (.int .i64 0)
   have Qa:bN O O2 W Wf:=by rw [← hWf];exact oF (oF EB (WX _ (by show B≤B+1;omega))) (WX _ (by show B≤B+1+1;omega))
   have M9:W2.heap.size≤Wf.heap.size:=by rw [← hWf];simp;omega
   have UO:aU Wf (Fr O2 Wf) p (.slice pa pn pc):=by
    have hl:=yh (W:=W2) (R:=Fr O2 W2) (X:=fun g=>g=B∨g=B+1∨g=B+1+1) (fun g off k hg hk=>by
     rcases hg with rfl|rfl|rfl
     ·exact Bi b0 off k hk
     ·exact Fs b1 off k
     ·exact Fs b2 off k) p _ (HN.out p rfl) HK.out
    refine aU.later (fun g hg _=>Yx g (fun e=>hg.2 (.inl e)) (fun e=>hg.2 (.inr (.inl e))) (fun e=>hg.2 (.inr (.inr e)))) (fun g hg=>?_) p _ hl;have ho:=Yx g (fun e=>hg.2 (.inl e)) (fun e=>hg.2 (.inr (.inl e))) (fun e=>hg.2 (.inr (.inr e)))
    exact ⟨aC hg.1.1 M9,hg.1.2.1,by rw [ho];exact hg.1.2.2⟩
   rw [hWf];have hT:Told L size O W (xA.part p) (.returned (.tuple #[.agg #[.string q0,.string q1,.int .i64 q2,.int .i64 q3,.slice pa pn pc],.int .i64 0,.int .i64 0])) Wf:=⟨_,O2,by rw [H5.out],UO,Qa⟩
   have y0:Wf.cell? ⟨B,0,none⟩=some (.string q0):=by simp [World.cell?,f0]
   have y1:Wf.cell? ⟨B,1,none⟩=some (.string q1):=by simp [World.cell?,f0]
   have y2:Wf.cell? ⟨B,2,none⟩=some (.int .i64 q2):=by simp [World.cell?,f0]
   have y3:Wf.cell? ⟨B,3,none⟩=some (.int .i64 q3):=by simp [World.cell?,f0]
   have y4:Wf.cell? ⟨B,4,none⟩=some (.slice pa pn pc):=by simp [World.cell?,f0]
   have y5:Wf.cell? ⟨B+1,0,none⟩=some (.int .i64 0):=by simp [World.cell?,f1]
   have y6:Wf.cell? ⟨B+1+1,0,none⟩=some (.int .i64 0):=by simp [World.cell?,f2]
   clear f0 f1 f2 b0 b1 b2 s0 s1 s2 s3 s4 pX Yx e1 e2 g1 g2 EB Et Qa UO M9 c0 c1 c2 c3 c4 k4 z0 z1 z2 z3 z4 z5 z6 fz fz1 fz2 WX
   simp [Leaves,Go.settle,results,Tryz.results76,go_sem,y0,y1,y2,y3,y4,y5,y6]
   exact hT
  ·obtain ⟨x,R,hx⟩:∃ x R,s.todo=x :: R:=by
    cases h:s.todo with
    | nil=>exact absurd h ht
    | cons x R=>exact ⟨x,R,rfl⟩
   obtain ⟨g,c,v,O3,k2,k2z,kv,hgc,hv,vB,CY⟩:=Rx kG.out hx;obtain ⟨w3,hw3⟩:∃ w3,wr.setCell ⟨d,2,none⟩ (.slice (some ⟨g,0,none⟩) R.length c)=w3:=⟨_,rfl⟩;rw [hw3] at hv vB CY
   have RN:fA L size s=exec L size x { s with todo:=R }:=by unfold fA;rw [hx]
   have hZ:=HZ.out;have hB:=HB.out
   have hRl:R.length+1≤6*m+3:=by have:=hZ.todo;rw [hx] at this;exact this
   have hm:m≤166100:=by have:=Hl.out;omega
   have hstep:=LF HC.out (by rw [hx];simp)
   have hne:exec L size x { s with todo:=R }≠.stuck:=by
    rw [← RN]
    rcases hstep with ⟨h,_⟩|⟨_,_,_,h,_⟩ <;> rw [h] <;> simp
   have hsm:Small L { s with todo:=R }:=⟨HOk.out.1,by have:=Hl.out;omega,by have:=Hl.out;show R.length≤_;omega,by have:=hZ.opn;have:=Hl.out;show s.opn.length≤_;omega,fun o ho=>by have:=hZ.kids o ho;have:=Hl.out;omega⟩;have hst:=zh vB hsm (P9.out.stay CY) (fun o ho=>by have:=hZ.kids o ho;have:=Hl.out;omega) (by have:=hZ.opn;have:=Hl.out;show s.opn.length<_;omega) hZ.Fa hv hne;rw [← RN] at hst
   have hRb:R.length≤1000000:=by have:=Hl.out;omega
   obtain ⟨rl,hrl⟩:∃ rl,R.length=rl:=⟨_,rfl⟩;rw [hrl] at k2 kv hgc hw3 hRb;obtain ⟨n1,hn1⟩:∃ n1,n1=rl+1:=⟨_,rfl⟩;rw [← hn1] at k2 hgc;have HW3:=hid hw3;have abf:=hid hstep;have HZ':=hid hZ;have KC:=hid CY
   rcases hst with ⟨f,rfl,hcf,hcl⟩|⟨f,b1,b2,rfl,hcf,hcl⟩
   all_goals
    skip
    have HCl:=hid hcl;clear CY hstep hZ hB hne hsm RN hRl hm hx ht vB hv hw3 hcl
    go_wp2_with fail
    rw [HW3.out];refine HCl.out.mono ?_;rintro e w4 hD
    rcases abf.out with ⟨h1,rfl⟩|⟨k1,s1,hk1,h1,hcm⟩
    ·rw [h1] at hD
     obtain ⟨rfl,hb4⟩:=hD;have Hb4:=hid hb4;clear hb4 h1;dsimp only
     go_wp2_with fail
     have hS5:=((HS2.out.trans KC.out).trans (bN.of_below Hb4.out));have b0:=(hS5.at HF0.out).trans HP.out.1;have b1:=(hS5.at EH.out).trans HP.out.2.1;have b2:=(hS5.at HF2.out).trans HP.out.2.2;obtain ⟨B,hBq⟩:∃ B,W.heap.size=B:=⟨_,rfl⟩;rw [hBq] at b0 b1 b2 ⊢;obtain ⟨z,hzz⟩:∃ z,(tok L size s.i).f=z:=⟨_,rfl⟩;rw [hzz];refine leaves_cons (f:=99) (args:=#[.pointer (some ⟨B+1,0,none⟩),.pointer (some ⟨B+1+1,0,none⟩)]) (by simp) (by simp [go_sem]) ?_;have b1':=ay b1 (i:=0) (.int .i64 z);have b2':(w4.setCell ⟨B+1,0,none⟩ (.int .i64 z)).heap[B+1+1]?=_:=(aj _ _ _ _ (by show B+1+1≠B+1;omega)).trans b2;refine (JA ⟨B+1,0,none⟩ ⟨B+1+1,0,none⟩ 0 0 z [] w4 (by simp [World.cell?,b1]) (by simp [World.frozen?,b1]) (by simp [World.cell?,b2']) (by simp [World.frozen?,b2'])).mono ?_;rintro e u' w'' ⟨rfl,rfl,rfl⟩;have Qa:bN O O3 W ((w4.setCell ⟨B+1,0,none⟩ (.int .i64 z)).setCell ⟨B+1+1,0,none⟩ (.int .i64 101)):=oF (oF ((bN.of_below HV.out).trans hS5) (by omega)) (by omega);have b0':(w4.setCell ⟨B+1,0,none⟩ (.int .i64 z)).heap[B]?=_:=(aj _ _ _ _ (by show B≠B+1;omega)).trans b0;obtain ⟨Wf,hWf⟩:∃ X,(w4.setCell ⟨B+1,0,none⟩ (.int .i64 z)).setCell ⟨B+1+1,0,none⟩ (.int .i64 101)=X:=⟨_,rfl⟩
     have f0:Wf.heap[B]?=some (.cells #[.string ⟨#[]⟩,.string ⟨#[]⟩,.int .i64 0,.int .i64 0,.slice none 0 0] 49 (0,0)):=by rw [← hWf];exact (aj _ _ _ _ (by show B≠B+1+1;omega)).trans b0'
     have f1:Wf.heap[B+1]?=some (.cells #[.int .i64 z] 3 (0,0)):=by rw [← hWf];exact (aj _ _ _ _ (by show B+1≠B+1+1;omega)).trans b1'
     have f2:Wf.heap[B+1+1]?=some (.cells #[.int .i64 101] 50 (0,0)):=by rw [← hWf];exact ay b2' (.int .i64 101)
     rw [hWf] at Qa ⊢;have hT:Told L size O W (xA.bad s.i) (.returned (.tuple #[RL,.int .i64 z,.int .i64 101])) Wf:=⟨O3,by rw [hzz],Qa⟩
     have y0:Wf.cell? ⟨B,0,none⟩=some (.string ⟨#[]⟩):=by simp [World.cell?,f0]
     have y1:Wf.cell? ⟨B,1,none⟩=some (.string ⟨#[]⟩):=by simp [World.cell?,f0]
     have y2:Wf.cell? ⟨B,2,none⟩=some (.int .i64 0):=by simp [World.cell?,f0]
     have y3:Wf.cell? ⟨B,3,none⟩=some (.int .i64 0):=by simp [World.cell?,f0]
     have y4:Wf.cell? ⟨B,4,none⟩=some (.slice none 0 0):=by simp [World.cell?,f0]
     have y5:Wf.cell? ⟨B+1,0,none⟩=some (.int .i64 z):=by simp [World.cell?,f1]
     have y6:Wf.cell? ⟨B+1+1,0,none⟩=some (.int .i64 101):=by simp [World.cell?,f2]
     clear f0 f1 f2 b0 b1 b2 b0' b1' b2' Qa hS5
     simp [Leaves,Go.settle,results,Tryz.results76,go_sem,y0,y1,y2,y3,y4,y5,y6]
     exact hT
    ·rw [h1] at hD
     obtain ⟨rfl,O4,Kz,EB⟩:=hD;have hz1:=U5 HZ.out h1;have hok1:=E9 size HL.out HOk.out h1;have mO:=hid Kz;have Yt:=hid ((HS2.out.trans KC.out).trans EB);have HG4:=hid ((P9.out.stay KC.out).stay EB);have kH:=hid hz1;have xE:=hid hok1;have UL:=hid hcm;have Rh:=hid hk1;clear Kz EB hz1 hok1 hcm h1 hk1;dsimp only
     go_wp2_with fail
     go_roundg k1
     case rel=>exact ⟨m+1,s1,O4,UL,kH,hid (by have:=HB.out;have:=Rh.out;omega),xE,mO,Yt,HG4⟩
     case measure=>have:=Rh.out;omega
end
end K
namespace S
open Go.RowKit
open Go.Lib hiding intOf
open U L
theorem GY (n b0 b1 b2 b3:Nat) (h0:128≤b0):128≤(decodeN n b0 b1 b2 b3).1∧(1<(decodeN n b0 b1 b2 b3).2→1<n∧128≤b1)∧(2<(decodeN n b0 b1 b2 b3).2→2<n∧128≤b2)∧(3<(decodeN n b0 b1 b2 b3).2→3<n∧128≤b3)∧(decodeN n b0 b1 b2 b3).2≤4:=by
 unfold decodeN
 repeat' split
 all_goals (simp only;omega)
theorem JH {s:ByteArray} {i:Nat} (h:i<s.size) (hc:s[i].toNat<128):Utf8.decode s i=(s[i].toNat,1):=by
 rw [gZ,Utf8W.get!_of_lt s i h,vS _ _ _ _ _ hc]
theorem Fu {s:ByteArray} {i:Nat} (h:i<s.size) (hc:128≤s[i].toNat):128≤(Utf8.decode s i).1∧∀ j (hj:j<s.size),i≤j→j<i+(Utf8.decode s i).2→128≤s[j].toNat:=by
 have hd:=GY (s.size - i) (s.get! i).toNat (s.get! (i+1)).toNat (s.get! (i+2)).toNat (s.get! (i+3)).toNat (by rw [Utf8W.get!_of_lt s i h];exact hc);rw [← gZ] at hd;obtain ⟨h1,h2,h3,h4,h5⟩:=hd;refine ⟨h1,fun j hj hij hlt=>?_⟩
 have hg:=fun (k:Nat) (hk:k<s.size)=>Utf8W.get!_of_lt s k hk
 rcases (show j=i∨j=i+1∨j=i+2∨j=i+3 by omega) with rfl|rfl|rfl|rfl
 ·exact hc
 ·have:=(h2 (by omega)).2;rwa [hg _ hj] at this
 ·have:=(h3 (by omega)).2;rwa [hg _ hj] at this
 ·have:=(h4 (by omega)).2;rwa [hg _ hj] at this
structure Bj (P:Nat→Bool) (q:UInt8→Bool):Prop where
 low:∀ c:UInt8,c.toNat<128→P c.toNat=q c
 high:∃ d,(∀ r,128≤r→P r=d)∧∀ c:UInt8,128≤c.toNat→q c=d
theorem zm {q:UInt8→Bool} {s:ByteArray} {i:Nat}:∀ k,i+k≤s.size→(∀ j (hj:j<s.size),i≤j→j<i+k→q s[j]=true)→dz q s (i+k)=dz q s i
 | 0,_,_=>rfl
 | k+1,h,hp=>by
  rw [show i+(k+1)=(i+k)+1 by omega,ry (by omega) (hp (i+k) (by omega) (by omega) (by omega))]
  exact zm k (by omega) (fun j hj h1 h2=>hp j hj h1 (by omega))
theorem U9 {P:Nat→Bool} {q:UInt8→Bool} (hS:Bj P q) {s:ByteArray} {i:Nat} (h:i<s.size) (hp:P (Utf8.decode s i).1=true):dz q s (i+(Utf8.decode s i).2)=dz q s i:=by
 by_cases hc:s[i].toNat<128
 ·have e:=JH h hc
  rw [e] at hp ⊢;rw [hS.low _ hc] at hp
  exact ry h hp
 ·obtain ⟨d,h1,h2⟩:=hS.high
  obtain ⟨h3,h4⟩:=Fu h (by omega);rw [h1 _ h3] at hp;have hw:=width_le s i h
  exact zm _ hw (fun j hj g1 g2=>by rw [h2 _ (h4 j hj g1 g2)];exact hp)
theorem RO {P:Nat→Bool} {q:UInt8→Bool} (hS:Bj P q) {s:ByteArray} {i:Nat} (h:i<s.size) (hp:P (Utf8.decode s i).1=false):dz q s i=i:=by
 by_cases hc:s[i].toNat<128
 ·have e:=JH h hc
  rw [e,hS.low _ hc] at hp
  exact qd h hp
 ·obtain ⟨d,h1,h2⟩:=hS.high
  rw [h1 _ (Fu h (by omega)).1] at hp
  exact qd h (by rw [h2 _ (by omega)];exact hp)
def Bl (r:Nat):Bool:=decide ((97≤r∧r≤122)∨(65≤r∧r≤90)∨r=95)
def GZ (r:Nat):Bool:=decide (48≤r∧r≤57)
def Fv (r:Nat):Bool:=Bl r||GZ r
def LK (r:Nat):Bool:=decide (r≠34∧r≠10)
def Dt (r:Nat):Bool:=decide (r≠10)
def tT (c:UInt8):Bool:=decide (c≠34∧c≠10)
theorem RP (c:UInt8):Bl c.toNat=mo c:=by
 unfold mo Bl
 have:decide (c=95)=decide (c.toNat=95):=by
  rw [decide_eq_decide]
  exact ⟨fun h=>by rw [h];rfl,fun h=>UInt8.toNat_inj.1 h⟩
 rw [this]
 simp [gM,Bool.or_assoc]
theorem RQ (c:UInt8):GZ c.toNat=kF c:=by unfold kF GZ;simp [gM]
theorem Yy (c:UInt8):Fv c.toNat=rV c:=by unfold Fv rV;rw [RP,RQ]
theorem Yz (c d:UInt8):(c.toNat≠d.toNat) ↔ c≠d:=⟨fun h e=>h (by rw [e]),fun h e=>h (UInt8.toNat_inj.1 e)⟩
theorem YA (c:UInt8):Dt c.toNat=rz c:=by
 unfold Dt rz
 rw [decide_eq_decide]
 exact Yz c 10
theorem abg (c:UInt8):LK c.toNat=tT c:=by
 unfold LK tT
 rw [decide_eq_decide]
 exact and_congr (Yz c 34) (Yz c 10)
theorem Ce {P:Nat→Bool} {q:UInt8→Bool} (h:∀ c:UInt8,P c.toNat=q c) (d:Bool) (hd:∀ r,128≤r→P r=d):Bj P q :=
 ⟨fun c _=>h c,d,hd,fun c hc=>by rw [← h c];exact hd _ hc⟩
theorem RU:Bj Fv rV:=Ce Yy false (fun r h=>by unfold Fv Bl GZ;simp;omega)
theorem Va:Bj GZ kF:=Ce RQ false (fun r h=>by unfold GZ;simp;omega)
theorem RY:Bj Dt rz:=Ce YA true (fun r h=>by unfold Dt;simp;omega)
theorem Vb:Bj LK tT:=Ce abg true (fun r h=>by unfold LK;simp;omega)
theorem Nl (l:By):Lib.hasPrefix l [47,47]=(match l with|a :: b :: _=>a==47&&b==47|_=>false):=by
 unfold Lib.hasPrefix
 match l with
 | []=>rfl
 | [a]=>simp [List.isPrefixOf]
 | a :: b :: r=>simp [List.isPrefixOf,fP]
theorem Vd (s:ByteArray):(Lib.hasPrefix s.toList [47,47]=true∧0<eG s.toList∧dz rz s 0=eG s.toList)∨(Lib.hasPrefix s.toList [47,47]=false∧eG s.toList=0):=by
 unfold dz
 rw [Nl,bM,bA];generalize s.toList=l
 match l with
 | []=>exact .inr ⟨rfl,rfl⟩
 | [a]=>exact .inr ⟨rfl,rfl⟩
 | a :: b :: r =>
  by_cases h:a=47∧b=47
  ·obtain ⟨rfl,rfl⟩:=h
   refine .inl ⟨rfl,?_,?_⟩
   ·simp only [eG,and_self,if_true];omega
   ·have e:rz 47=true:=by decide
    have:(fun c:UInt8=>decide (c≠10))=rz:=rfl;simp only [eG,and_self,if_true,bK,e,aH,this];omega
  ·refine .inr ⟨?_,?_⟩
   ·simp only
    rw [Bool.and_eq_false_iff]
    by_cases h1:a=47
    ·exact .inr (by simpa using fun h2=>h ⟨h1,h2⟩)
    ·exact .inl (by simpa using h1)
   ·simp only [eG];rw [ai h]
theorem Du:∀ r:By,iy r=(if r[(r.takeWhile tT).length]?=some 34 then some ((r.takeWhile tT).length+1) else none)
 | []=>by simp [iy]
 | c :: r=>by
  have ih:=Du r
  by_cases h10:c=10
  ·subst h10;simp [iy,tT]
  ·by_cases xS:c=34
   ·subst xS;simp [iy,tT]
   ·have hq:tT c=true:=by simp [tT,h10,xS]
    simp only [iy,ai h10,ai xS,bK,hq,if_true,aH,ig,ih]
    split <;> simp
theorem RZ {s:ByteArray} (h0:0<s.size) (hc:s[0]=34) {k:Nat} (hk:dz tT (s.extract 1 s.size) 0=k) :
  (1+k=s.size∧gB s.toList=0)∨∃ h:1+k<s.size,(s[1+k]=34∧gB s.toList=1+k+1)∨(s[1+k]≠34∧gB s.toList=0):=by
 have hl:=fO s h0;rw [bM] at hl
 unfold dz at hk
 rw [bA,bM,kK] at hk;have hle:=IP tT (s.toList.drop 1);rw [hk,bC,dP] at hle
 have R7:gB s.toList=(match iy (s.toList.drop 1) with|none=>0|some n=>n+1):=by
  rw [show gB s.toList=gB (34 :: s.toList.drop (0+1)) from congrArg gB (hl.trans (by rw [hc]))];simp only [gB,if_true];rfl
 rw [Du,hk,gX] at R7
 by_cases he:1+k=s.size
 ·left
  refine ⟨he,?_⟩;rw [di (by rw [dP];omega)] at R7
  simpa using R7
 ·right
  have hlt:1+k<s.size:=by omega
  refine ⟨hlt,?_⟩;rw [xV s hlt] at R7
  by_cases xS:s[1+k]=34
  ·left
   rw [xS,au rfl] at R7;refine ⟨xS,?_⟩;simp only at R7;omega
  ·right
   refine ⟨xS,?_⟩;rw [ai (by intro e;exact xS (bf e))] at R7
   simpa using R7
theorem Np (s:ByteArray) (h0:0<s.size) {m:Nat} (hm:m=if 2≤s.size then 2 else s.size) {t:By} (ht:(s.extract 0 m).toList=t) :
  two s.toList=((t==[58,61])||(t==[61,61])||(t==[33,61])||(t==[60,61])||(t==[62,61])||(t==[38,38])||(t==[124,124])):=by
 subst ht
 by_cases h2:2≤s.size
 ·rw [au h2] at hm
  subst hm;obtain ⟨t,h1,h3⟩:=KY s h2;rw [h1];exact h3
 ·rw [ai h2] at hm
  have hz:m=1:=by omega
  subst hz;rw [NV s (by omega),sV];have hl:=dP s
  match hh:s.toList with
  | []=>rw [hh] at hl;simp at hl;omega
  | [a]=>simp
  | a :: b :: r=>rw [hh] at hl;simp at hl;omega
theorem OI {right:Bool} {s:ByteArray} (h0:0<s.size) (hc:mo s[0]=true):eX right s.toList=(if zS (s.extract 0 (dz rV s 0)).toList then 3 else 0,dz rV s 0)∧0<dz rV s 0∧dz rV s 0≤s.size:=by
 have hn:gQ s.toList=dz rV s 0:=by
  unfold dz
  rw [bA,bM];have hl:=fO s h0;rw [bM] at hl;rw [hl]
  have:rV s[0]=true:=by unfold rV;rw [hc];rfl
  simp only [gQ,hc,if_true,bK,this,aH];omega
 have hle:=Gm s.toList;rw [hn,dP] at hle
 have hp:0<dz rV s 0:=by
  rw [← hn];have hl:=fO s h0;rw [bM] at hl;rw [hl];simp only [gQ,hc,if_true];omega
 refine ⟨?_,hp,hle⟩
 unfold eX
 rw [hn,au hp,sV]
theorem Cf {s:ByteArray} (h0:0<s.size) (hc:mo s[0]=false):gQ s.toList=0:=by
 have hl:=fO s h0;rw [bM] at hl;rw [hl]
 simp [gQ,hc]
theorem LM (s:ByteArray):nI s.toList=dz kF s 0:=by
 unfold nI dz
 rw [bA,bM]
theorem LP {s:ByteArray} (h0:0<s.size) (hc:kF s[0]=false):nI s.toList=0:=by
 rw [LM,qd h0 hc]
theorem R8 {right:Bool} {s:ByteArray} (h0:0<s.size) (hc:mo s[0]=false) (hf:kF s[0]=true):eX right s.toList=(1,dz kF s 0)∧0<dz kF s 0∧dz kF s 0≤s.size:=by
 have hp:0<dz kF s 0:=by
  rw [← ry h0 hf]
  unfold dz;omega
 have hle:nI s.toList≤s.toList.length:=IP _ _;rw [LM,dP] at hle;refine ⟨?_,hp,hle⟩
 unfold eX
 rw [Cf h0 hc,ai (by omega),LM,au hp]
theorem Sa {s:ByteArray} (h0:0<s.size) (hc:s[0]≠34):gB s.toList=0:=by
 have hl:=fO s h0;rw [bM] at hl;rw [hl]
 simp [gB,hc]
theorem Sb {right:Bool} {s:ByteArray} (h0:0<s.size) (hc:mo s[0]=false) (hf:kF s[0]=false) (hq:0<gB s.toList):eX right s.toList=(2,gB s.toList):=by
 unfold eX
 rw [Cf h0 hc,ai (by omega),LP h0 hf,ai (by omega),au hq]
theorem OJ {right:Bool} {s:ByteArray} (h0:0<s.size) (hc:s[0]=59):eX right s.toList=(5,1):=by
 have hl:=fO s h0;rw [bM] at hl
 unfold eX
 rw [Cf h0 (by rw [hc];decide),ai (by omega),LP h0 (by rw [hc];decide),ai (by omega),Sa h0 (by rw [hc];decide),ai (by omega),au (by rw [hl,hc];rfl)]
theorem Fx {right:Bool} {s:ByteArray} (h0:0<s.size) (hc:mo s[0]=false) (hf:kF s[0]=false) (hq:gB s.toList=0) (WY:s[0]≠59):eX right s.toList=(4,fQ right s.toList):=by
 have hl:=fO s h0;rw [bM] at hl
 unfold eX
 rw [Cf h0 hc,ai (by omega),LP h0 hf,ai (by omega),hq,ai (by omega),ai (by rw [hl];simpa using WY)]
theorem Sc (r:Nat) (w:World):Calls Tryz.prog 91 #[.int .i32 r] w fun e w'=>e=.returned (.bool (Dt r))∧w=w':=by
 obtain ⟨R,hR⟩:∃ R,Dt r=R:=⟨_,rfl⟩;have HR:=hid hR;rw [hR];clear hR
 go_enter Tryz.func91,Tryz.ntmps91
 go_wp2_with fail
 all_goals (go_ret;exact ⟨vQ (by rw [← HR.out,gq];simp [Dt];omega),rfl⟩)
theorem OK (r:Nat) (w:World):Calls Tryz.prog 114 #[.int .i32 r] w fun e w'=>e=.returned (.bool (LK r))∧w=w':=by
 obtain ⟨R,hR⟩:∃ R,LK r=R:=⟨_,rfl⟩;have HR:=hid hR;rw [hR];clear hR
 go_enter Tryz.func114,Tryz.ntmps114
 go_wp2_with fail
 all_goals (go_ret;exact ⟨vQ (by rw [← HR.out,gq];simp [LK];omega),rfl⟩)
theorem G4 (r:Nat) (w:World):Calls Tryz.prog 95 #[.int .i32 r] w fun e w'=>e=.returned (.bool (GZ r))∧w=w':=by
 obtain ⟨R,hR⟩:∃ R,GZ r=R:=⟨_,rfl⟩;have HR:=hid hR;rw [hR];clear hR
 go_enter Tryz.func95,Tryz.ntmps95
 go_wp2_with fail
 all_goals (go_ret;exact ⟨vQ (by rw [← HR.out,gq];simp [GZ];omega),rfl⟩)
theorem JI (r:Nat) (w:World):Calls Tryz.prog 92 #[.int .i32 r] w fun e w'=>e=.returned (.bool (Bl r))∧w=w':=by
 obtain ⟨R,hR⟩:∃ R,Bl r=R:=⟨_,rfl⟩;have HR:=hid hR;rw [hR];clear hR
 go_enter Tryz.func92,Tryz.ntmps92
 go_wp2_with fail
 all_goals (go_ret;exact ⟨vQ (by rw [← HR.out,gq];simp [Bl];omega),rfl⟩)
def Dv (r:Nat):Bool:=decide (r=32∨r=9∨r=13)
theorem OM (r:Nat) (w:World):Calls Tryz.prog 88 #[.int .i32 r] w fun e w'=>e=.returned (.bool (Dv r))∧w=w':=by
 obtain ⟨R,hR⟩:∃ R,Dv r=R:=⟨_,rfl⟩;have HR:=hid hR;rw [hR];clear hR
 go_enter Tryz.func88,Tryz.ntmps88
 go_wp2_with fail
 all_goals (go_ret;exact ⟨vQ (by rw [← HR.out,gq];simp [Dv];omega),rfl⟩)
theorem LQ (r:Nat) (w:World):Calls Tryz.prog 93 #[.int .i32 r] w fun e w'=>e=.returned (.bool (Fv r))∧w=w':=by
 have c1:=JI r w
 have c2:=fun X=>G4 r X
 unfold Fv
 cases ha:Bl r
 ·rw [ha] at c1
  clear ha
  go_enter Tryz.func93,Tryz.ntmps93
  go_wp2_with fail
  refine c1.mono ?_;rintro e w2 ⟨rfl,rfl⟩
  go_wp2_with fail
  refine (c2 w).mono ?_;rintro e w2 ⟨rfl,rfl⟩
  go_wp2_with fail
  go_ret
  exact ⟨rfl,rfl⟩
 ·rw [ha] at c1
  clear ha
  go_enter Tryz.func93,Tryz.ntmps93
  go_wp2_with fail
  refine c1.mono ?_;rintro e w2 ⟨rfl,rfl⟩
  go_wp2_with fail
  go_ret
  exact ⟨rfl,rfl⟩
theorem Sd (s:ByteArray) (w:World):Calls Tryz.prog 113 #[.string s] w fun e w'=>e=.returned (.bool (zS s.toList))∧w=w':=by
 obtain ⟨R,hR⟩:∃ R,zS s.toList=R:=⟨_,rfl⟩;have HR:=hid hR;rw [hR];clear hR
 go_enter Tryz.func113,Tryz.ntmps113
 go_wp2_with fail
 all_goals (go_ret;exact ⟨vQ (by first|(exfalso;simp_all;done)|(rw [← HR.out];simp only [zS, *];rfl)),rfl⟩)
theorem OO (k f e':Int) (t:ByteArray) (w:World):Calls Tryz.prog 98 #[.agg #[.int .i64 k,.string t,.int .i64 f,.int .i64 e']] w fun e w'=>e=.returned (.bool (pZ k t.toList))∧Below w.heap.size w w':=by
 obtain ⟨R,hR⟩:∃ R,pZ k t.toList=R:=⟨_,rfl⟩;rw [hR]
 unfold pZ at hR
 have HR:=hid hR;clear hR
 go_enter Tryz.func98,Tryz.ntmps98
 go_wp2_with fail
 all_goals (go_ret;refine ⟨vQ (by first|(exfalso;simp_all;done)|(exfalso;omega)|(rw [← HR.out];simp [*];done)|(rw [← HR.out];simp_all;done)|(rw [← HR.out];simp;omega)),(ah _ _).alloc (ae _) _⟩)
theorem LU (s:ByteArray) (w:World):Calls Tryz.prog 94 #[.string s] w fun e w'=>e=.returned (.int .i64 (if zS s.toList then 3 else 0))∧w=w':=by
 have c1:=Sd s w
 cases hb:zS s.toList
 ·rw [hb] at c1
  clear hb
  go_enter Tryz.func94,Tryz.ntmps94
  go_wp2_with fail
  refine c1.mono ?_;rintro e w2 ⟨rfl,rfl⟩
  go_wp2_with fail
  go_ret
  exact ⟨rfl,rfl⟩
 ·rw [hb] at c1
  clear hb
  go_enter Tryz.func94,Tryz.ntmps94
  go_wp2_with fail
  refine c1.mono ?_;rintro e w2 ⟨rfl,rfl⟩
  go_wp2_with fail
  go_ret
  exact ⟨rfl,rfl⟩
theorem tH {P:Nat→Bool} {q:UInt8→Bool} (hS:Bj P q) (k:Nat) (s:ByteArray) (w:World) (hs:s.size≤1099511627776)
  (c:∀ (r:Nat) (X:World),Calls Tryz.prog k #[.int .i32 r] X fun e w'=>e=.returned (.bool (P r))∧X=w')
  (he:∀ args X,(callFunc k args).run Tryz.prog X=.ok (.enter k args) X) :
  Calls Tryz.prog 90 #[.string s,.func (.func k) #[] #[]] w fun e w'=>e=.returned (.int .i64 (dz q s 0:Nat))∧Below w.heap.size w w':=by
 obtain ⟨R,hR⟩:∃ R,dz q s 0=R:=⟨_,rfl⟩;have HR:=hid hR;have HC:=hid c;rw [hR];clear hR c
 go_enter Tryz.func90,Tryz.ntmps90
 go_wp2_with fail
 go_loopw [] (fun w'=>∃ pos:Nat,w'=w.iter s pos∧Hid (dz q s pos=R)∧pos≤s.size) (fun w'=>s.size - w'.iterPos w.heap.size)
 case atStart=>exact ⟨0,rfl,HR,by omega⟩
 case round =>
  obtain ⟨pos,rfl,HO,hp⟩:=hrel
  by_cases hlt:pos<s.size
  ·have hnx:∀ ty,(Instr.next (.pointer (some ⟨w.heap.size,0,none⟩)) true ty).run Tryz.prog (w.iter s pos)=_:=fun ty=>run_next_any w s pos ty hlt
   have hw1:=width_pos s pos hlt;have hw2:=width_le s pos hlt;have H1:=hid (fun h=>U9 hS (s:=s) hlt h);have H2:=hid (fun h=>RO hS (s:=s) hlt h);have c1:=HC.out (Utf8.decode s pos).1 (w.iter s (pos+(Utf8.decode s pos).2))
   cases hb:P (Utf8.decode s pos).1
   ·have HE:=hid (H2.out hb)
    rw [hb] at c1;clear hb H1 H2
    go_wp2_with fail
    refine c1.mono ?_;rintro e w2 ⟨rfl,rfl⟩;clear c1
    go_wp2_with fail
    go_ret
    exact ⟨by rw [← HO.out,HE.out];rfl,(ah _ _).alloc (ae _) _⟩
   ·have HN:=hid ((H1.out hb).trans HO.out)
    rw [hb] at c1;clear hb H1 H2
    go_wp2_with fail
    refine c1.mono ?_;rintro e w2 ⟨rfl,rfl⟩;clear c1
    go_wp2_with fail
    go_roundw
    case rel=>exact ⟨pos+(Utf8.decode s pos).2,rfl,HN,by omega⟩
    case measure=>simp;omega
  ·have hnx:∀ ty,(Instr.next (.pointer (some ⟨w.heap.size,0,none⟩)) true ty).run Tryz.prog (w.iter s pos)=_:=fun ty=>run_next_end w s pos ty hlt
   have HE:=hid (vR q (s:=s) (i:=pos) (by omega))
   obtain rfl:pos=s.size:=by omega
   go_wp2_with fail
   go_ret
   exact ⟨by rw [← HO.out,HE.out];rfl,(ah _ _).alloc (ae _) _⟩
theorem Ve (s:ByteArray) (w:World) (hs:s.size≤1099511627776):Calls Tryz.prog 90 #[.string s,.func (.func 114) #[] #[]] w fun e w'=>e=.returned (.int .i64 (dz tT s 0:Nat))∧Below w.heap.size w w' :=
 tH Vb _ s w hs (fun r X=>OK r X) (fun _ _=>by kernel_rfl)
theorem Se (s:ByteArray) (w:World) (hs:s.size≤1099511627776):Calls Tryz.prog 90 #[.string s,.func (.func 91) #[] #[]] w fun e w'=>e=.returned (.int .i64 (dz rz s 0:Nat))∧Below w.heap.size w w' :=
 tH RY _ s w hs (fun r X=>Sc r X) (fun _ _=>by kernel_rfl)
theorem Sf (s:ByteArray) (w:World) (hs:s.size≤1099511627776):Calls Tryz.prog 90 #[.string s,.func (.func 93) #[] #[]] w fun e w'=>e=.returned (.int .i64 (dz rV s 0:Nat))∧Below w.heap.size w w' :=
 tH RU _ s w hs (fun r X=>LQ r X) (fun _ _=>by kernel_rfl)
theorem Vf (s:ByteArray) (w:World) (hs:s.size≤1099511627776):Calls Tryz.prog 90 #[.string s,.func (.func 95) #[] #[]] w fun e w'=>e=.returned (.int .i64 (dz kF s 0:Nat))∧Below w.heap.size w w' :=
 tH Va _ s w hs (fun r X=>G4 r X) (fun _ _=>by kernel_rfl)
theorem LV (s:ByteArray) (w:World) (hs:s.size≤1099511627776) (h0:0<s.size) (hc:s[0]=34):Calls Tryz.prog 96 #[.string s] w fun e w'=>e=.returned (.int .i64 (gB s.toList:Nat))∧Below w.heap.size w w':=by
 have c1:=Ve (s.extract 1 s.size) w (by rw [size_extract s 1 s.size (by omega) (ae _)];omega);obtain ⟨k,hk⟩:∃ k,dz tT (s.extract 1 s.size) 0=k:=⟨_,rfl⟩;rw [hk] at c1;obtain ⟨R,hR⟩:∃ R,gB s.toList=R:=⟨_,rfl⟩
 rcases RZ h0 hc hk with ⟨h1,h2⟩|⟨h1,h2⟩
 ·rw [hR] at h2 ⊢
  subst h2
  have hb:((1+(k:Int))==(s.size:Int))=true:=by simp;omega
  clear hk hR hc
  go_enter Tryz.func96,Tryz.ntmps96
  go_wp2_with fail
  refine c1.mono ?_;rintro e w2 ⟨rfl,hb2⟩;clear c1
  go_wp2_with fail
  go_ret
  exact ⟨rfl,hb2⟩
 ·have hb:((1+(k:Int))==(s.size:Int))=false:=by simp;omega
  rcases h2 with ⟨h2,h3⟩|⟨h2,h3⟩
  ·rw [h3] at hR
   subst hR;obtain ⟨z,hz⟩:∃ z,s[1+k]=z:=⟨_,rfl⟩
   have e34:((z.toNat:Int)==34)=true:=by rw [← hz,h2];rfl
   rw [h3];clear hk hc h2 h3
   go_enter Tryz.func96,Tryz.ntmps96
   go_wp2_with fail
   refine c1.mono ?_;rintro e w2 ⟨rfl,hb2⟩;clear c1
   go_wp2_with fail
   go_ret
   exact ⟨by go_num,hb2⟩
  ·rw [hR] at h3
   subst h3;obtain ⟨z,hz⟩:∃ z,s[1+k]=z:=⟨_,rfl⟩
   have e34:((z.toNat:Int)==34)=false:=by
    have h:=qg z 34;rw [dm (by rw [← hz];exact h2)] at h
    exact h
   rw [hR];clear hk hc h2 hR
   go_enter Tryz.func96,Tryz.ntmps96
   go_wp2_with fail
   refine c1.mono ?_;rintro e w2 ⟨rfl,hb2⟩;clear c1
   go_wp2_with fail
   go_ret
   exact ⟨rfl,hb2⟩
structure vo (B d:Nat) (w w':World):Prop where
 os:w'.os=w.os
 tape:w'.tape=w.tape
 output:w'.output=w.output
 size:w.heap.size≤w'.heap.size
 block:∀ k,k<B→k≠d→w'.heap[k]?=w.heap[k]?
theorem vo.refl (B d:Nat) (w:World):vo B d w w:=⟨rfl,rfl,rfl,ae _,fun _ _ _=>rfl⟩
theorem vo.trans {B d:Nat} {a b c:World} (h:vo B d a b) (k:vo B d b c):vo B d a c :=
 ⟨k.os.trans h.os,k.tape.trans h.tape,k.output.trans h.output,aJ h.size k.size,fun i hi hd=>(k.block i hi hd).trans (h.block i hi hd)⟩
theorem vo.mono {B B' d:Nat} {w w':World} (h:vo B d w w') (hB:B'≤B):vo B' d w w':=⟨h.os,h.tape,h.output,h.size,fun k hk=>h.block k (aC hk hB)⟩
theorem vo.of_below {B d:Nat} {w w':World} (h:Below B w w'):vo B d w w':=⟨h.os,h.tape,h.output,h.size,fun k hk _=>h.block k hk⟩
theorem vo.setCell {B d:Nat} {a w:World} (h:vo B d a w) (i:Nat) (v:Value):vo B d a (w.setCell ⟨d,i,none⟩ v):=by
 refine ⟨h.os,h.tape,h.output,by simpa using h.size,fun k hk hd=>?_⟩;rw [aj _ _ _ _ hd]
 exact h.block k hk hd
theorem vo.alloc {B d:Nat} {a w:World} (h:vo B d a w) (hB:B≤w.heap.size) (o:Obj):vo B d a (w.alloc o) :=
 h.trans (vo.of_below ((ah B w).alloc hB o))
theorem vo.grown {B d:Nat} {a w w':World} {row:Option Nat} (h:vo B d a w) (hg:w.grownBy w' row) (hB:B≤w.heap.size) (hr:∀ k,row=some k→B≤k∨k=d):vo B d a w' :=
 h.trans ⟨hg.os,hg.tape,hg.output,hg.size,fun k hk hd=>hg.block k (aC hk hB) (fun e=>(hr k e.symm).elim (fun h1=>absurd h1 (by omega)) hd)⟩
theorem vo.below {B d:Nat} {w w':World} (h:vo B d w w') (hd:B≤d):Below B w w':=⟨h.os,h.tape,h.output,h.size,fun k hk=>h.block k hk (by omega)⟩
def qX (d:Nat) (s:ByteArray) (r:Bool) (i:Int) (v:Value) (w:World):Prop:=w.heap[d]?=some (.cells #[.string s,.bool r,.int .i64 i,v] 107 (0,0))
section
variable {d:Nat} {s:ByteArray} {r:Bool} {i:Int} {v:Value} {w w':World}
theorem qX.c0 (h:qX d s r i v w):w.cell? ⟨d,0,none⟩=some (.string s):=by unfold qX at h;simp [World.cell?,h]
theorem qX.c1 (h:qX d s r i v w):w.cell? ⟨d,1,none⟩=some (.bool r):=by unfold qX at h;simp [World.cell?,h]
theorem qX.c2 (h:qX d s r i v w):w.cell? ⟨d,2,none⟩=some (.int .i64 i):=by unfold qX at h;simp [World.cell?,h]
theorem qX.c3 (h:qX d s r i v w):w.cell? ⟨d,3,none⟩=some v:=by unfold qX at h;simp [World.cell?,h]
theorem qX.f2 (h:qX d s r i v w):w.frozen? ⟨d,2,none⟩=false:=by unfold qX at h;simp [World.frozen?,h]
theorem qX.f3 (h:qX d s r i v w):w.frozen? ⟨d,3,none⟩=false:=by unfold qX at h;simp [World.frozen?,h]
theorem qX.lt (h:qX d s r i v w):d<w.heap.size:=(af.1 h).1
theorem qX.set2 (h:qX d s r i v w) (x:Int):qX d s r x v (w.setCell ⟨d,2,none⟩ (.int .i64 x)):=ay h _
theorem qX.YB (h:qX d s r i v w) (x:Value):qX d s r i x (w.setCell ⟨d,3,none⟩ x):=ay h _
theorem qX.same (h:qX d s r i v w) (hs:w'.heap[d]?=w.heap[d]?):qX d s r i v w':=hs.trans h
theorem qX.below (h:qX d s r i v w) (hb:Below w.heap.size w w'):qX d s r i v w':=h.same (hb.block d h.lt)
end
abbrev Row (d:Nat) (v:Value) (O:List bn) (w:World):Prop:=w.ownsRow (d+1) 86 4 v O.length (fV O)
theorem OQ {w w':World} {B n size:Nat} {e:TypeId} {v:Value} {xs:List Value} (h:w.ownsRow B e size v n xs) (hs:∀ k,v.ownBlock=some k→w'.heap[k]?=w.heap[k]?):w'.ownsRow B e size v n xs:=by
 refine ⟨h.1,?_⟩
 rcases h.2 with h|⟨g,cap,cur,rfl,h2,h3,h4⟩
 ·exact .inl h
 ·exact .inr ⟨g,cap,cur,rfl,h2,(hs g rfl).trans h3,h4⟩
theorem LW {d k:Nat} {v:Value} {O:List bn} {w:World} (h:Row d v O w) (hk:O.length=k+1):∃ (g c:Nat) (t:bn),v=.slice (some ⟨g,0,none⟩) (k+1) c∧sW O=pZ t.w t.t∧w.cell? ⟨g,k*4,none⟩=some (.int .i64 t.w)∧w.cell? ⟨g,k*4+1,none⟩=some (.string ⟨t.t.toArray⟩)∧w.cell? ⟨g,k*4+2,none⟩=some (.int .i64 t.f)∧w.cell? ⟨g,k*4+3,none⟩=some (.int .i64 t.e):=by
 obtain ⟨g,c,hv,hkc,hgZ,hgw⟩:=lM h (by omega);subst hv;have YC:=BX h rfl
 have Sg:k<O.length:=by omega
 have hcl:=xX k YC Sg;simp only [bA] at hcl;refine ⟨g,c,O[k],by rw [hk],?_,hcl⟩
 unfold sW
 rw [List.getLast?_eq_getElem?,hk,gp,aB Sg]
theorem yj (d:Nat) (s:ByteArray) (r:Bool) (i:Int) (v:Value) (O:List bn) (w:World) (hB:qX d s r i v w) (hR:Row d v O w) (hf:O.length≤1099511627776) :
  Calls Tryz.prog 72 #[.pointer (some ⟨d,0,none⟩)] w fun e w'=>e=.returned (.bool (sW O))∧Below w.heap.size w w':=by
 have h3:=hB.c3
 by_cases h0:O.length=0
 ·obtain ⟨a,c,rfl⟩:=eH hR
  have WZ:O=[]:=dF.1 h0
  have he:sW O=false:=by rw [WZ];rfl
  rw [he];rw [h0] at h3;clear hB hR
  go_enter Tryz.func72,Tryz.ntmps72
  go_upto_region 1 with fail
  go_quiet (fail)
  go_wp2_with fail
  go_ret
  exact ⟨rfl,mY (ah _ _) _⟩
 ·obtain ⟨k,hk⟩:∃ k,O.length=k+1:=⟨O.length - 1,by omega⟩
  obtain ⟨g,c,t,rfl,he,c0,c1,c2,c3⟩:=LW hR hk;obtain ⟨x,hx⟩:∃ x:ByteArray,(⟨t.t.toArray⟩:ByteArray)=x:=⟨_,rfl⟩
  have hxl:x.toList=t.t:=by rw [← hx,bg]
  rw [hx] at c1
  have cE:=fun X=>OO t.w t.f t.e x X
  rw [hxl,← he] at cE;obtain ⟨_,hlt⟩:=hR.lt g rfl;have hd:=hB.lt;obtain ⟨n,hn⟩:∃ n,n=k+1:=⟨_,rfl⟩;rw [← hn] at h3
  have hcells:∀ X,Below w.heap.size w X→(X.cell? ⟨d,3,none⟩=some (.slice (some ⟨g,0,none⟩) n c)∧X.cell? ⟨g,k*4,none⟩=some (.int .i64 t.w)∧X.cell? ⟨g,k*4+1,none⟩=some (.string x)∧X.cell? ⟨g,k*4+2,none⟩=some (.int .i64 t.f)∧X.cell? ⟨g,k*4+3,none⟩=some (.int .i64 t.e)∧Below w.heap.size w X):=fun X hX =>
   ⟨(hX.cell (p:=⟨d,3,none⟩) hd).trans h3,(hX.cell (p:=⟨g,k*4,none⟩) hlt).trans c0,(hX.cell (p:=⟨g,k*4+1,none⟩) hlt).trans c1,(hX.cell (p:=⟨g,k*4+2,none⟩) hlt).trans c2,(hX.cell (p:=⟨g,k*4+3,none⟩) hlt).trans c3,hX⟩
  obtain ⟨b,hb⟩:∃ b,sW O=b:=⟨_,rfl⟩;rw [hb] at cE ⊢
  have CE2:∀ X,(X.cell? ⟨d,3,none⟩=some (.slice (some ⟨g,0,none⟩) n c)∧X.cell? ⟨g,k*4,none⟩=some (.int .i64 t.w)∧X.cell? ⟨g,k*4+1,none⟩=some (.string x)∧X.cell? ⟨g,k*4+2,none⟩=some (.int .i64 t.f)∧X.cell? ⟨g,k*4+3,none⟩=some (.int .i64 t.e)∧Below w.heap.size w X)→Calls Tryz.prog 98 #[.agg #[.int .i64 t.w,.string x,.int .i64 t.f,.int .i64 t.e]] X fun e w'=>e=.returned (.bool b)∧(w'.cell? ⟨d,3,none⟩=some (.slice (some ⟨g,0,none⟩) n c)∧w'.cell? ⟨g,k*4,none⟩=some (.int .i64 t.w)∧w'.cell? ⟨g,k*4+1,none⟩=some (.string x)∧w'.cell? ⟨g,k*4+2,none⟩=some (.int .i64 t.f)∧w'.cell? ⟨g,k*4+3,none⟩=some (.int .i64 t.e)∧Below w.heap.size w w'):=fun X hX =>
   (cE X).mono fun e w' ⟨h1,h2⟩=>⟨h1,hcells _ (hX.2.2.2.2.2.trans (h2.mono hX.2.2.2.2.2.size))⟩
  have hS0:=hcells w.drew (ah _ _).drew
  have hk6:k≤1099511627776:=by omega
  have Sg:(k:Int)<(n:Int):=by omega
  have hk0:(0:Int)≤(k:Int):=by omega
  have hpos:0<n:=by omega
  have hi1:IntKind.i64.wrap ((n:Int) - 1)=(k:Int):=(bq _ (by omega)).trans (by omega);clear hcells cE hb hB hR hx hxl he hlt hd hk hf h0 h3 c0 c1 c2 c3 hn
  go_enter Tryz.func72,Tryz.ntmps72
  go_upto_region 1 with fail
  go_region_held3 (fun X=>X.cell? ⟨d,3,none⟩=some (.slice (some ⟨g,0,none⟩) n c)∧X.cell? ⟨g,k*4,none⟩=some (.int .i64 t.w)∧X.cell? ⟨g,k*4+1,none⟩=some (.string x)∧X.cell? ⟨g,k*4+2,none⟩=some (.int .i64 t.f)∧X.cell? ⟨g,k*4+3,none⟩=some (.int .i64 t.e)∧Below w.heap.size w X) (with_reducible (repeat (first|assumption))) (first
   | (go_at_call 98;(with_reducible refine (CE2 _ ?_).mono ?_);assumption;rintro e w3 ⟨rfl,CY⟩))
  go_wp2_with fail
  go_ret
  exact ⟨rfl,CY.2.2.2.2.2⟩
def yl (x:Int) (y:ByteArray) (f e:Nat):bn:=⟨x,if y.toList=[10] then [] else y.toList,f,e⟩
def wy (d:Nat) (s:ByteArray) (r:Bool) (i:Int) (O:List bn) (w:World) (e:Ending) (w':World):Prop:=e=.returned (.tuple #[])∧∃ v,qX d s r i v w'∧Row d v O w'∧vo (d+1) d w w'
theorem G5 {d k:Nat} {v u:Value} {O:List bn} {w:World} (h:Row d v O w):Row d v O (w.setCell ⟨d,k,none⟩ u) :=
 OQ h (fun j hj=>aj _ _ _ _ (by have:=(h.lt j hj).1;show j≠d;omega))
theorem Si {d:Nat} {s:ByteArray} {r:Bool} {i j:Int} {v v5:Value} {O:List bn} {t:bn} {w W w5:World} {o:Obj} (hB:qX d s r i v W) (hR:Row d v O W) (hl:Below w.heap.size w W) (hd:d<w.heap.size)
  (hv5:w5.ownsRow (d+1) 86 4 v5 (O.length+1) (fV O++fV [t])) (hg:(W.alloc o).grownBy w5 v.ownBlock) :
  qX d s r i v w5∧wy d s r j (O++[t]) w (.returned (.tuple #[])) ((w5.setCell ⟨d,3,none⟩ v5).setCell ⟨d,2,none⟩ (.int .i64 j)):=by
 have T9:=hB.lt
 have hne:v.ownBlock≠some d:=fun e=>by have:=(hR.lt d e).1;omega
 have h5:qX d s r i v w5:=(hB.same (dw W o d (by omega))).same (hg.block d (by rw [aT];omega) (fun e=>hne e.symm))
 have hr:Row d v5 (O++[t]) w5:=by
  unfold Row
  rw [oZ,aO]
  exact hv5
 have hm:vo (d+1) d w w5:=by
  refine ⟨?_,?_,?_,?_,fun k hk hkd=>?_⟩
  ·exact hg.os.trans hl.os
  ·exact hg.tape.trans hl.tape
  ·exact hg.output.trans hl.output
  ·have h1:=hg.size;have h2:=hl.size;rw [aT] at h1;omega
  ·rw [hg.block k (by rw [aT];omega) (fun e=>by have:=(hR.lt k e.symm).1;omega),dw W o k (by omega)]
   exact hl.block k (by omega)
 exact ⟨h5,rfl,v5,(h5.YB v5).set2 j,G5 (G5 hr),(hm.setCell 3 v5).setCell 2 _⟩
theorem fB (d:Nat) (s:ByteArray) (r:Bool) (i n:Nat) (x:Int) (v:Value) (O:List bn) (w:World) (hB:qX d s r i v w) (hR:Row d v O w) (hf:O.length≤1099511627776) (hs:s.size≤1099511627776) (hin:i+n≤s.size) :
  Calls Tryz.prog 73 #[.pointer (some ⟨d,0,none⟩),.int .i64 x,.int .i64 n] w (wy d s r ((i+n:Nat):Int) (O++[yl x (s.extract i (i+n)) i (i+n)]) w):=by
 obtain ⟨i0,hi0,hz0,hz1,hz2⟩:=eB MX;obtain ⟨va,vc,rfl⟩:=eH hR;have h0:=hB.c0;have h2:=hB.c2;have hd:=hB.lt;obtain ⟨y,hy⟩:∃ y,s.extract i (i+n)=y:=⟨_,rfl⟩;rw [hy];have HB:=hid hB;have HR:=hid hR;clear hB hR
 have aaK:(0:Int)≤(i:Int):=by omega
 have hin1:(i:Int)≤(i:Int)+(n:Int):=by omega
 have hin2:(i:Int)+(n:Int)≤(s.size:Int):=by omega
 have ae8:IntKind.i64.wrap ((i:Int)+(n:Int))=(i:Int)+(n:Int):=bq _ (by omega);obtain ⟨Q,hQ⟩:∃ Q,wy d s r ((i+n:Nat):Int) (O++[yl x y i (i+n)]) w=Q:=⟨_,rfl⟩;rw [hQ];have HQ:=hid hQ;clear hQ
 by_cases h10:y.toList=[10]
 focus
  have HT:Hid (yl x y i (i+n)=⟨x,[],i,(i:Int)+(n:Int)⟩):=hid (by unfold yl;rw [au h10];congr 1)
  have hyb:(y.toList==[10])=true:=by rw [h10];rfl
  clear h10
  go_enter Tryz.func73,Tryz.ntmps73
  go_upto_region 0 with fail
  go_quiet (fail)
  obtain ⟨W,hW⟩:∃ V,w.drewN nq=V:=⟨_,rfl⟩;have Cg:Hid (Below w.heap.size w W):=hid (by rw [← hW];exact mY (ah _ _) _);have HB1:=hid (HB.out.below Cg.out);have HR1:Hid (Row d (.slice va O.length vc) O W):=hid (aR HR.out Cg.out);rw [hW];clear h0 h2 hW HB HR;have h0:=HB1.out.c0;have h3:=HB1.out.c3
  go_wp2_with (at_builtin;refine gK _ rfl _ _ 79 rfl (d+1) 86 i0 (.agg #[.int .i64 0,.string ⟨#[]⟩,.int .i64 0,.int .i64 0]) 4 40 Tryz.underlying79 hi0 hz0 hz1 hz2 rfl (by decide) _ _ _ rfl (HR1.out.alloc _) ⟨W.heap.size,0,none⟩ 1 1 (fV [⟨x,[],i,(i:Int)+(n:Int)⟩]) rfl rfl ?c1 (nK _) ?c3 ?c4 ?c5 ?_)
  case c1=>exact BZ _ _
  case c3=>unfold maxLen;omega
  case c4=>omega
  case c5=>rw [aT];have:=HB1.out.lt;omega
 rotate_left
 focus
  have HT:Hid (yl x y i (i+n)=⟨x,y.toList,i,(i:Int)+(n:Int)⟩):=hid (by unfold yl;rw [ai h10];congr 1)
  have hyb:(y.toList==[10])=false:=by simpa using h10
  clear h10
  go_enter Tryz.func73,Tryz.ntmps73
  go_upto_region 0 with fail
  go_quiet (fail)
  obtain ⟨W,hW⟩:∃ V,w.drewN nq=V:=⟨_,rfl⟩;have Cg:Hid (Below w.heap.size w W):=hid (by rw [← hW];exact mY (ah _ _) _);have HB1:=hid (HB.out.below Cg.out);have HR1:Hid (Row d (.slice va O.length vc) O W):=hid (aR HR.out Cg.out);rw [hW];clear h0 h2 hW HB HR;have h0:=HB1.out.c0;have h3:=HB1.out.c3
  go_wp2_with (at_builtin;refine gK _ rfl _ _ 79 rfl (d+1) 86 i0 (.agg #[.int .i64 0,.string ⟨#[]⟩,.int .i64 0,.int .i64 0]) 4 40 Tryz.underlying79 hi0 hz0 hz1 hz2 rfl (by decide) _ _ _ rfl (HR1.out.alloc _) ⟨W.heap.size,0,none⟩ 1 1 (fV [⟨x,y.toList,i,(i:Int)+(n:Int)⟩]) rfl rfl ?c1 (nK _) ?c3 ?c4 ?c5 ?_)
  case c1=>exact CO _ _ _ _ _
  case c3=>unfold maxLen;omega
  case c4=>omega
  case c5=>rw [aT];have:=HB1.out.lt;omega
 rotate_left
 all_goals
  intro v5 w5 hv5 hg5 _;obtain ⟨v5a,v5c,rfl⟩:=eH hv5;have hte:=Si (j:=(i:Int)+(n:Int)) HB1.out HR1.out Cg.out hd hv5 hg5;have f3:=hte.1.f3;have f2:=(hte.1.YB (.slice v5a (O.length+1) v5c)).f2;have HTE:=hid hte.2;have q3:=hte.1.c3;have q2:=(hte.1.YB (.slice v5a (O.length+1) v5c)).c2;clear hv5 hg5 hte h0 h3
  go_wp2_with fail
  refine fT (aD rfl _ _ _) rfl ?_;rw [← HQ.out,HT.out]
  exact HTE.out
theorem OT (d:Nat) (s:ByteArray) (r:Bool) (i:Int) (v:Value) (w:World) (t:ByteArray) (hB:qX d s r i v w) (ht:t.size≤1099511627776) (h0:0<t.size) (h2:two t.toList=false) :
  Calls Tryz.prog 97 #[.pointer (some ⟨d,0,none⟩),.string t] w fun e w'=>e=.returned (.int .i64 (fQ r t.toList:Nat))∧Below w.heap.size w w':=by
 have h1:=hB.c1
 have hm:fQ r t.toList=if r then wid t.toList else 1:=by unfold fQ;rw [ai (by rw [h2];simp)]
 have h7:=Np t h0 (m:=(min 2 (t.size:Int)).toNat) (by split <;> omega) rfl;rw [h2] at h7;simp only [Bool.false_eq,Bool.or_eq_false_iff] at h7;obtain ⟨⟨⟨⟨⟨⟨t1,t2⟩,t3⟩,t4⟩,t5⟩,t6⟩,t7⟩:=h7;clear hB h2
 cases r
 ·replace hm:fQ false t.toList=1:=hm
  rw [hm];clear hm
  go_enter Tryz.func97,Tryz.ntmps97
  go_wp2_with fail
  go_ret
  exact ⟨rfl,ah _ _⟩
 ·replace hm:fQ true t.toList=wid t.toList:=hm
  rw [hm];have hwb:=xP (l:=t.toList) (by intro e;have:=dP t;rw [e] at this;simp at this;omega);rw [dP] at hwb;obtain ⟨R,hR⟩:∃ R,wid t.toList=R:=⟨_,rfl⟩;rw [hR] at hwb ⊢;have HR:Hid ((Utf8.decode t 0).2=R):=hid (by rw [← hR,Gt]);clear hm hR
  go_enter Tryz.func97,Tryz.ntmps97
  go_wp2_with fail
  clear t1 t2 t3 t4 t5 t6 t7
  go_loopw [] (fun w'=>∃ pos:Nat,w'=w.iter t pos∧(pos=0∨pos=R)) (fun w'=>t.size - w'.iterPos w.heap.size)
  case atStart=>exact ⟨0,rfl,.inl rfl⟩
  case round =>
   obtain ⟨pos,rfl,hp⟩:=hrel
   by_cases hlt:pos<t.size
   ·have hnx:∀ ty,(Instr.next (.pointer (some ⟨w.heap.size,0,none⟩)) true ty).run Tryz.prog (w.iter t pos)=_:=fun ty=>run_next_any w t pos ty hlt
    have hw1:=width_pos t pos hlt;have hw2:=width_le t pos hlt
    by_cases hp0:0<pos
    ·go_wp2_with fail
     go_ret
     exact ⟨by rw [show pos=R by omega];rfl,(ah _ _).alloc (ae _) _⟩
    ·have HN:Hid (pos+(Utf8.decode t pos).2=R):=hid (by
      have h:=HR.out
      have hp0:pos=0:=by omega
      rw [hp0];omega)
     clear hp
     go_wp2_with fail
     go_roundw
     case rel=>exact ⟨pos+(Utf8.decode t pos).2,rfl,.inr HN.out⟩
     case measure=>simp;omega
   ·have hnx:∀ ty,(Instr.next (.pointer (some ⟨w.heap.size,0,none⟩)) true ty).run Tryz.prog (w.iter t pos)=_:=fun ty=>run_next_end w t pos ty hlt
    have hRz:R=t.size:=by omega
    go_wp2_with fail
    go_ret
    exact ⟨by rw [hRz];rfl,(ah _ _).alloc (ae _) _⟩
theorem Sj (d:Nat) (r:Bool) (w:World) (t:ByteArray) (h2:two t.toList=true) :
  Calls Tryz.prog 97 #[.pointer (some ⟨d,0,none⟩),.string t] w fun e w'=>e=.returned (.int .i64 (fQ r t.toList:Nat))∧Below w.heap.size w w':=by
 have hm:fQ r t.toList=2:=by unfold fQ;rw [au h2]
 have hz:2≤t.size:=by have:=Gl h2;rwa [dP] at this
 have h7:=Np t (by omega) (m:=(min 2 (t.size:Int)).toNat) (by split <;> omega) rfl;rw [h2] at h7;rw [hm];clear h2 hm
 cases e0:((t.extract 0 (min 2 (t.size:Int)).toNat).toList==[58,61])
 rotate_left
 ·clear h7
  go_enter Tryz.func97,Tryz.ntmps97
  go_wp2_with fail
  go_ret
  exact ⟨rfl,ah _ _⟩
 rw [e0] at h7
 cases e1:((t.extract 0 (min 2 (t.size:Int)).toNat).toList==[61,61])
 rotate_left
 ·clear h7
  go_enter Tryz.func97,Tryz.ntmps97
  go_wp2_with fail
  go_ret
  exact ⟨rfl,ah _ _⟩
 rw [e1] at h7
 cases e2:((t.extract 0 (min 2 (t.size:Int)).toNat).toList==[33,61])
 rotate_left
 ·clear h7
  go_enter Tryz.func97,Tryz.ntmps97
  go_wp2_with fail
  go_ret
  exact ⟨rfl,ah _ _⟩
 rw [e2] at h7
 cases e3:((t.extract 0 (min 2 (t.size:Int)).toNat).toList==[60,61])
 rotate_left
 ·clear h7
  go_enter Tryz.func97,Tryz.ntmps97
  go_wp2_with fail
  go_ret
  exact ⟨rfl,ah _ _⟩
 rw [e3] at h7
 cases e4:((t.extract 0 (min 2 (t.size:Int)).toNat).toList==[62,61])
 rotate_left
 ·clear h7
  go_enter Tryz.func97,Tryz.ntmps97
  go_wp2_with fail
  go_ret
  exact ⟨rfl,ah _ _⟩
 rw [e4] at h7
 cases e5:((t.extract 0 (min 2 (t.size:Int)).toNat).toList==[38,38])
 rotate_left
 ·clear h7
  go_enter Tryz.func97,Tryz.ntmps97
  go_wp2_with fail
  go_ret
  exact ⟨rfl,ah _ _⟩
 rw [e5] at h7
 cases e6:((t.extract 0 (min 2 (t.size:Int)).toNat).toList==[124,124])
 rotate_left
 ·clear h7
  go_enter Tryz.func97,Tryz.ntmps97
  go_wp2_with fail
  go_ret
  exact ⟨rfl,ah _ _⟩
 rw [e6] at h7
 simp at h7
theorem JJ (d:Nat) (s:ByteArray) (r:Bool) (i:Int) (v:Value) (w:World) (t:ByteArray) (hB:qX d s r i v w) (ht:t.size≤1099511627776) (h0:0<t.size) :
  Calls Tryz.prog 97 #[.pointer (some ⟨d,0,none⟩),.string t] w fun e w'=>e=.returned (.int .i64 (fQ r t.toList:Nat))∧Below w.heap.size w w':=by
 cases h2:two t.toList
 ·exact OT d s r i v w t hB ht h0 h2
 ·exact Sj d r w t h2
end S
end Go.Proofs.YtojoahlpgmnbnaaGreatDoor
namespace Go.Proofs
open Go.Shelf
def Tryz.G6:Go.Shelf.Ren:=⟨fun|316=>78|n=>n,fun|9=>9|3=>3|4=>4|37=>131|0=>0|127=>132|5=>5|n=>n,fun|n=>n⟩
theorem Tryz.Sk:Go.Proofs.LaysM.n316 Tryz.prog Tryz.G6:={
 mixed:=by kernel_rfl
 f316:=Tryz.func78.trans (congrArg some (by kernel_rfl))
 t0:=Tryz.underlying0
 a0:=Tryz.isAgg0
 z0:=Tryz.sizeOf0
 v0:=Tryz.zeroValue0
 t3:=Tryz.underlying3
 a3:=Tryz.isAgg3
 z3:=Tryz.sizeOf3
 v3:=Tryz.zeroValue3
 t4:=Tryz.underlying4
 a4:=Tryz.isAgg4
 z4:=Tryz.sizeOf4
 v4:=Tryz.zeroValue4
 t9:=Tryz.underlying9
 a9:=Tryz.isAgg9
 z9:=Tryz.sizeOf9
 v9:=Tryz.zeroValue9
 t37:=Tryz.underlying131
 a37:=Tryz.isAgg131
 z37:=Tryz.sizeOf131
 v37:=Tryz.zeroValue131
 t127:=Tryz.underlying132
 a127:=Tryz.isAgg132
 z127:=Tryz.sizeOf132
 v127:=Tryz.zeroValue132
 t5:=Tryz.underlying5
 a5:=Tryz.isAgg5
 z5:=Tryz.sizeOf5
 v5:=Tryz.zeroValue5
 i0:=by kernel_rfl
 i3:=by kernel_rfl
 i4:=by kernel_rfl
 i5:=by kernel_rfl
 i9:=by kernel_rfl
 i37:=by kernel_rfl
 i127:=by kernel_rfl }
open Go.RowKit in
theorem Tryz.stringslite_Clone (s:ByteArray) (w:World) (hlim:s.size≤281474976710656) :
  Calls Tryz.prog 78 #[.string s] w fun e w'=>e=.returned (.string s)∧Below w.heap.size w w':=Any.stringslite_Clone Tryz.Sk s w hlim
def Tryz.W9:Go.Shelf.Ren:=⟨fun|206=>112|n=>n,fun|9=>9|4=>4|3=>3|n=>n,fun|n=>n⟩
def Tryz.LX:Go.Shelf.Ren:=⟨fun|99=>89|206=>112|n=>n,fun|9=>9|4=>4|3=>3|n=>n,fun|n=>n⟩
theorem Tryz.YD:Go.Proofs.Lays.n99 Tryz.prog Tryz.LX:={
 mixed:=by kernel_rfl
 f99:=Tryz.func89.trans (congrArg some (by kernel_rfl))
 f206:=Tryz.func112.trans (congrArg some (by kernel_rfl))
 t3:=Tryz.underlying3
 a3:=Tryz.isAgg3
 z3:=Tryz.sizeOf3
 v3:=Tryz.zeroValue3
 t4:=Tryz.underlying4
 a4:=Tryz.isAgg4
 z4:=Tryz.sizeOf4
 v4:=Tryz.zeroValue4
 t9:=Tryz.underlying9
 a9:=Tryz.isAgg9
 z9:=Tryz.sizeOf9
 v9:=Tryz.zeroValue9 }
open Go.RowKit Go.Lib in
theorem Tryz.strings_HasPrefix (s p:ByteArray) (w:World) :
  Calls Tryz.prog 89 #[.string s,.string p] w fun e w'=>e=.returned (.bool (Lib.hasPrefix s.data.toList p.data.toList))∧w'=w:=Any.strings_HasPrefix Tryz.YD s p w
end Go.Proofs
namespace Go.Proofs.YtojoahlpgmnbnaaGreatDoor
namespace S
open Go.RowKit
open Go.Lib hiding intOf
open U L
def Stepped (d:Nat) (s:ByteArray) (r:Bool) (i:Nat) (w:World) (e:Ending) (w':World):Prop:=∃ (j:Nat) (O:List bn),i<j∧j≤s.size∧og r s j O∧wy d s r j O w e w'
theorem at_end {d:Nat} {s:ByteArray} {r:Bool} {i j:Int} {v:Value} {O:List bn} {w W:World} (hB:qX d s r i v W) (hR:Row d v O W) (hl:Below w.heap.size w W) (hd:d<w.heap.size) :
  wy d s r j O w (.returned (.tuple #[])) (W.setCell ⟨d,2,none⟩ (.int .i64 j)) :=
 ⟨rfl,v,hB.set2 j,G5 hR,(vo.of_below (⟨hl.os,hl.tape,hl.output,hl.size,fun k hk=>hl.block k (by omega)⟩:Below (d+1) w W)).setCell 2 _⟩
theorem wy.after {d:Nat} {s:ByteArray} {r:Bool} {j:Int} {O:List bn} {w W w':World} {e:Ending} (h:wy d s r j O W e w') (hl:Below w.heap.size w W) (hd:d<w.heap.size):wy d s r j O w e w':=by
 obtain ⟨h1,v,h2,h3,h4⟩:=h
 exact ⟨h1,v,h2,h3,(vo.of_below (⟨hl.os,hl.tape,hl.output,hl.size,fun k hk=>hl.block k (by omega)⟩:Below (d+1) w W)).trans h4⟩
theorem Sl {x:Int} {s:ByteArray} {i k:Nat} {c:UInt8} (h:i<s.size) (hk:1≤k) (hc:s[i]=c) (h10:c≠10):yl x (s.extract i (i+k)) i (i+k)=⟨x,(s.extract i (i+k)).toList,i,((i+k:Nat):Int)⟩:=by
 unfold yl
 rw [ai];rw [ext_list,fO s h,show i+k - i=(k - 1)+1 by omega,List.take_succ_cons,hc];intro e
 exact h10 (List.cons.inj e).1
theorem abh {s:ByteArray} {i:Nat} (h:i<s.size) (hc:s[i]=10):yl 5 (s.extract i (i+1)) i (i+1)=⟨5,[],i,((i+1:Nat):Int)⟩:=by
 unfold yl
 rw [au];rw [ext_list,fO s h,show i+1 - i=0+1 by omega,List.take_succ_cons,hc];rfl
theorem OU (c:UInt8):Dv c.toNat=(blank c&&decide (c≠10)):=by
 rw [gq]
 have e:∀ d:UInt8,c.toNat=d.toNat ↔ c=d:=fun d=>⟨fun h=>UInt8.toNat_inj.1 h,fun h=>by rw [h]⟩
 have e32:=e 32;have e9:=e 9;have e13:=e 13;simp only [show (32:UInt8).toNat=32 from rfl,show (9:UInt8).toNat=9 from rfl,show (13:UInt8).toNat=13 from rfl] at e32 e9 e13
 unfold Dv blank
 simp only [decide_eq_true_eq,e32,e9,e13,ic,Bool.or_eq_true,beq_iff_eq,ne_eq]
 constructor
 ·rintro (h|h|h) <;> (subst h;decide)
 ·rintro ⟨((h|h)|h)|h,h2⟩
  ·exact .inl h
  ·exact .inr (.inl h)
  ·exact .inr (.inr h)
  ·exact absurd h h2
theorem qY {d:Nat} {s t:ByteArray} {r:Bool} {i k:Nat} {x:Int} {c:UInt8} {O:List bn} {w W:World} (hS:og r s i O) (hlt:i<s.size) (hc:s[i]=c) (hb:blank c=false) (ht:s.extract i s.size=t) (hk:eG t.toList=0) (hw:eX r t.toList=(x,k)) (hl:Below w.heap.size w W) (hd:d<w.heap.size) :
  i+k≤s.size∧∀ w',wy d s r ((i+k:Nat):Int) (O++[yl x (s.extract i (i+k)) i (i+k)]) W (.returned (.tuple #[])) w'→Stepped d s r i w (.returned (.tuple #[])) w':=by
 subst ht;obtain ⟨h1,h2,h3⟩:=zY hS hlt (by rw [hc];exact hb) hk hw;refine ⟨h1,fun w' h=>⟨i+k,_,by omega,h1,h3,?_⟩⟩;rw [Sl hlt h2 hc (fun e=>by rw [e] at hb;cases hb)] at h
 exact h.after hl hd
theorem zh (d:Nat) (s:ByteArray) (r:Bool) (i:Nat) (v:Value) (O:List bn) (w:World) (hB:qX d s r i v w) (hR:Row d v O w) (hS:og r s i O) (hlt:i<s.size) (hs:s.size≤1099511627776) :
  Calls Tryz.prog 71 #[.pointer (some ⟨d,0,none⟩)] w (Stepped d s r i w):=by
 have h0:=hB.c0;have h2:=hB.c2;have hd:=hB.lt
 have hf:O.length≤1099511627776:=by have:=hS.few;omega
 obtain ⟨t,ht⟩:∃ t,s.extract i s.size=t:=⟨_,rfl⟩
 have htz:t.size=s.size - i:=by rw [← ht,size_extract s i s.size (by omega) (ae _)]
 have ht0:0<t.size:=by omega
 obtain ⟨c,hc⟩:∃ c,s[i]=c:=⟨_,rfl⟩
 have htc:t[0]=c:=by
  have h1:=zX s hlt;rw [ht,xV t ht0,hc] at h1
  exact bf h1
 have hc256:c.toNat<256:=fZ c;have HB:=hid hB;have HR:=hid hR;have HS:=hid hS;have HC:=hid hc
 have hi0:(0:Int)≤(i:Int):=by omega
 have hi1:(i:Int)≤(s.size:Int):=by omega
 obtain ⟨Q,hQ⟩:∃ Q,Stepped d s r i w=Q:=⟨_,rfl⟩;rw [hQ];have HQ:=hid hQ;clear hB hR hS hc hQ
 go_enter Tryz.func71,Tryz.ntmps71
 go_upto_region 0 with fail
 go_quiet (fail)
 obtain ⟨W,hW⟩:∃ V,w.drewN nq=V:=⟨_,rfl⟩;have Cg:Hid (Below w.heap.size w W):=hid (by rw [← hW];exact mY (ah _ _) _);have HB1:=hid (HB.out.below Cg.out);have HR1:Hid (Row d v O W):=hid (aR HR.out Cg.out);rw [hW];clear h0 h2 hW HB HR;have cBl:=OM c.toNat W;rw [OU] at cBl
 go_wp2_with fail
 refine cBl.mono ?_;rintro e w2 ⟨rfl,rfl⟩;clear cBl
 by_cases hbl:blank c=true∧c≠10
 ·rw [show (blank c&&decide (c≠10))=true by simp [hbl.1,hbl.2]]
  have HE:Hid (Stepped d s r i w (.returned (.tuple #[])) (W.setCell ⟨d,2,none⟩ (.int .i64 ((i:Int)+1)))):=hid ⟨i+1,O,by omega,by omega,kC HS.out hlt (fun e=>hbl.2 (HC.out.symm.trans e.1)) (by rw [HC.out];exact hbl.1),at_end (j:=(i:Int)+1) HB1.out HR1.out Cg.out hd⟩;have h2:=HB1.out.c2;have f2:=HB1.out.f2;clear hbl ht htc
  go_wp2_with fail
  refine fT (aD rfl _ _ _) rfl ?_;rw [← HQ.out]
  exact HE.out
 ·rw [show (blank c&&decide (c≠10))=false by
   rw [Bool.and_eq_false_iff]
   by_cases hb:blank c=true
   ·exact .inr (by simpa using fun h=>hbl ⟨hb,h⟩)
   ·exact .inl (by simpa using hb)]
  have Vg:=hid hbl
  have cH:Calls Tryz.prog 89 #[.string t,.string ⟨#[47,47]⟩] W fun e w'=>e=.returned (.bool (Lib.hasPrefix t.toList [47,47]))∧w'=W:=by
   rw [bg]
   exact Tryz.strings_HasPrefix t ⟨#[47,47]⟩ W
  clear hbl
  go_wp2_with fail
  refine cH.mono ?_;rintro e w2 ⟨rfl,rfl⟩;clear cH
  rcases Vd t with ⟨hp,hk,hw⟩|⟨hp,hk⟩
  ·rw [hp]
   obtain ⟨n,hn⟩:∃ n,eG t.toList=n:=⟨_,rfl⟩;rw [hn] at hk hw
   have hle:i+n≤s.size:=by have h:=uA t.toList;rw [hn,dP] at h;omega
   have Am:Hid (blank c=false→og r s (i+n) O):=hid (fun hb=>by
    have h:=CP HS.out hlt (by rw [HC.out];exact hb) (by rw [ht,hn];exact hk)
    rwa [ht,hn] at h)
   have KD:Hid (blank c=false):=hid (by
    cases hb:blank c
    ·rfl
    ·exfalso
     have h10:c=10:=Classical.byContradiction (fun h=>Vg.out ⟨hb,h⟩);have hl:=fO t ht0;rw [bM,htc,h10] at hl;rw [hl,Nl] at hp
     match t.toList.drop (0+1),hp with
     | [],hp=>cases hp
     | x :: u,hp=>simp at hp)
   have HST:=hid (Am.out KD.out)
   have c1:∀ X,Below w2.heap.size w2 X→Calls Tryz.prog 90 #[.string t,.func (.func 91) #[] #[]] X fun e w'=>e=.returned (.int .i64 (n:Nat))∧(w'.cell? ⟨d,2,none⟩=some (.int .i64 i)∧w'.frozen? ⟨d,2,none⟩=false)∧Hid (Below w2.heap.size w2 w'):=fun X hX=>by
    have h:=Se t X (by omega);rw [hw] at h
    refine h.mono fun e w' ⟨h1,h2⟩=>⟨h1,?_⟩
    have hb:=hX.trans (h2.mono hX.size)
    exact ⟨⟨(HB1.out.below hb).c2,(HB1.out.below hb).f2⟩,hid hb⟩
   have h2:=HB1.out.c2;have f2:=HB1.out.f2;have hwr:IntKind.i64.wrap ((i:Int)+(n:Int))=(i:Int)+(n:Int):=bq _ (by omega);clear hp hw hn ht htc Am Vg
   go_upto_region 10 with fail
   go_region_with (first
    | (go_at_call 90;(with_reducible refine (c1 _ ?_).mono ?_);(exact ⟨rfl,rfl,rfl,ae _,fun _ _=>rfl⟩);rintro e w6 ⟨rfl,⟨q2,g2⟩,nM⟩))
   all_goals
    have HE:Hid (Stepped d s r i w (.returned (.tuple #[])) (w6.setCell ⟨d,2,none⟩ (.int .i64 ((i:Int)+(n:Int))))):=hid ⟨i+n,O,by omega,hle,HST.out,at_end (j:=(i:Int)+(n:Int)) (HB1.out.below nM.out) (aR HR1.out nM.out) (Cg.out.trans (nM.out.mono Cg.out.size)) hd⟩;clear q2 g2 h2 f2 c1
    go_wp2_with fail
    refine fT (aD rfl _ _ _) rfl ?_;rw [← HQ.out]
    exact HE.out
  ·rw [hp]
   have HCM:=hid hk;clear hp hk
   by_cases h10:c=10
   ·have e10:((c.toNat:Int)==10)=true:=by rw [h10];rfl
    have cM:=yj d s r i v O w2 HB1.out HR1.out hf;have LY:=hid h10;clear h10
    go_wp2_with fail
    refine cM.mono ?_;rintro e w3 ⟨rfl,hb3⟩;have HB3:=hid (HB1.out.below hb3);have HR3:Hid (Row d v O w3):=hid (aR HR1.out hb3);have JK:Hid (Below w.heap.size w w3):=hid (Cg.out.trans (hb3.mono Cg.out.size));clear cM hb3
    cases hen:sW O
    ·have HE:Hid (Stepped d s r i w (.returned (.tuple #[])) (w3.setCell ⟨d,2,none⟩ (.int .i64 ((i:Int)+1)))):=hid ⟨i+1,O,by omega,by omega,kC HS.out hlt (fun e=>by rw [hen] at e;cases e.2) (by rw [HC.out,LY.out];decide),at_end (j:=(i:Int)+1) HB3.out HR3.out JK.out hd⟩
     have h2:=HB3.out.c2;have f2:=HB3.out.f2;clear hen ht htc
     go_wp2_with fail
     refine fT (aD rfl _ _ _) rfl ?_;rw [← HQ.out]
     exact HE.out
    ·have cT:=fB d s r i 1 5 v O w3 HB3.out HR3.out hf hs (by omega)
     have HF:Hid (∀ w',wy d s r ((i+1:Nat):Int) (O++[yl 5 (s.extract i (i+1)) i (i+1)]) w3 (.returned (.tuple #[])) w'→Stepped d s r i w (.returned (.tuple #[])) w'):=hid (fun w' h=>⟨i+1,_,by omega,by omega,MZ HS.out hlt (HC.out.trans LY.out) hen,by
      rw [abh hlt (HC.out.trans LY.out)] at h
      exact h.after JK.out hd⟩)
     clear hen ht htc
     go_wp2_with fail
     refine cT.mono ?_;rintro e w4 ⟨rfl,hT⟩;have HT:=hid (HF.out w4 ⟨rfl,hT⟩);clear cT hT
     go_wp2_with fail
     refine fT (aD rfl _ _ _) rfl ?_;rw [← HQ.out]
     exact HT.out
   ·have e10:((c.toNat:Int)==10)=false:=by have h:=qg c 10;rw [dm h10] at h;exact h
    have KD:Hid (blank c=false):=hid (by
     cases hb:blank c
     ·rfl
     ·exact absurd ⟨hb,h10⟩ Vg.out)
    clear h10 Vg
    by_cases WY:c=59
    ·have e59:((c.toNat:Int)==59)=true:=by rw [WY];rfl
     obtain ⟨hik,hfin⟩:=qY HS.out hlt HC.out KD.out ht HCM.out (OJ (right:=r) ht0 (htc.trans WY)) Cg.out hd;have HF:=hid hfin;have cT:=fB d s r i 1 5 v O w2 HB1.out HR1.out hf hs hik;clear hfin WY ht htc
     go_wp2_with fail
     refine cT.mono ?_;rintro e w4 ⟨rfl,hT⟩;have HT:=hid (HF.out w4 ⟨rfl,hT⟩);clear cT hT
     go_wp2_with fail
     refine fT (aD rfl _ _ _) rfl ?_;rw [← HQ.out]
     exact HT.out
    ·have e59:((c.toNat:Int)==59)=false:=by have h:=qg c 59;rw [dm WY] at h;exact h
     have cL:=JI c.toNat w2;rw [RP] at cL
     go_wp2_with fail
     refine cL.mono ?_;rintro e w3 ⟨rfl,rfl⟩;clear cL
     cases hle:mo c
     focus
      have Qb:=hid (htc ▸ hle:mo t[0]=false);have cF:=G4 c.toNat w2;rw [RQ] at cF;clear hle
      go_wp2_with fail
      refine cF.mono ?_;rintro e w4 ⟨rfl,rfl⟩;clear cF
      cases hfi:kF c
      focus
       have HFI:=hid (htc ▸ hfi:kF t[0]=false);clear hfi
       have Xa:gB t.toList=0→(i+fQ r t.toList≤s.size∧∀ W w',Below w.heap.size w W→wy d s r ((i+fQ r t.toList:Nat):Int) (O++[yl 4 (s.extract i (i+fQ r t.toList)) i (i+fQ r t.toList)]) W (.returned (.tuple #[])) w'→Stepped d s r i w (.returned (.tuple #[])) w'):=fun hq =>
        ⟨(qY HS.out hlt HC.out KD.out ht HCM.out (Fx ht0 Qb.out HFI.out hq (by rw [htc];exact WY)) Cg.out hd).1,fun W w' hW h=>(qY HS.out hlt HC.out KD.out ht HCM.out (Fx ht0 Qb.out HFI.out hq (by rw [htc];exact WY)) hW hd).2 w' h⟩
       have YE:=hid Xa;clear Xa
       by_cases xS:c=34
       focus
        have e34:((c.toNat:Int)==34)=true:=by rw [xS];rfl
        have cQ:=LV t w2 (by omega) ht0 (htc.trans xS);obtain ⟨n,hn⟩:∃ n,gB t.toList=n:=⟨_,rfl⟩;rw [hn] at cQ;clear xS
        go_wp2_with fail
        refine cQ.mono ?_;rintro e w5 ⟨rfl,hb5⟩;have sw:=hid (HB1.out.below hb5);have vD:Hid (Row d v O w5):=hid (aR HR1.out hb5);have Sm:Hid (Below w.heap.size w w5):=hid (Cg.out.trans (hb5.mono Cg.out.size));clear cQ hb5
        by_cases hn0:0<n
        focus
         obtain ⟨hik,hfin⟩:=qY HS.out hlt HC.out KD.out ht HCM.out ((Sb (right:=r) ht0 Qb.out HFI.out (by rw [hn];exact hn0)).trans (by rw [hn])) Sm.out hd;have HF:=hid hfin;have cT:=fB d s r i n 2 v O w5 sw.out vD.out hf hs hik;clear hfin ht htc hn
        rotate_left
        focus
         have hq0:gB t.toList=0:=by omega
         obtain ⟨hik,hfin⟩:=YE.out hq0;have cM:=JJ d s r i v w5 t sw.out (by omega) ht0;obtain ⟨m,hm⟩:∃ m,fQ r t.toList=m:=⟨_,rfl⟩;rw [hm] at cM hik;simp only [hm] at hfin;clear hq0 hn hm YE
         go_wp2_with fail
         refine cM.mono ?_;rintro e w6 ⟨rfl,hb6⟩;have KE:=sw.out.below hb6;have Qc:Row d v O w6:=aR vD.out hb6;have hL6:Below w.heap.size w w6:=Sm.out.trans (hb6.mono Sm.out.size);have HF:=hid (fun w' h=>hfin w6 w' hL6 h);have cT:=fB d s r i m 4 v O w6 KE Qc hf hs hik;clear KE Qc hL6 cM hb6;clear hfin ht htc
        rotate_left
       rotate_left 2
       focus
        have e34:((c.toNat:Int)==34)=false:=by have h:=qg c 34;rw [dm xS] at h;exact h
        obtain ⟨hik,hfin⟩:=YE.out (Sa ht0 (by rw [htc];exact xS));have cM:=JJ d s r i v w2 t HB1.out (by omega) ht0;obtain ⟨m,hm⟩:∃ m,fQ r t.toList=m:=⟨_,rfl⟩;rw [hm] at cM hik;simp only [hm] at hfin;clear hm YE xS
        go_wp2_with fail
        refine cM.mono ?_;rintro e w6 ⟨rfl,hb6⟩;have KE:=HB1.out.below hb6;have Qc:Row d v O w6:=aR HR1.out hb6;have hL6:Below w.heap.size w w6:=Cg.out.trans (hb6.mono Cg.out.size);have HF:=hid (fun w' h=>hfin w6 w' hL6 h);have cT:=fB d s r i m 4 v O w6 KE Qc hf hs hik;clear KE Qc hL6 cM hb6;clear hfin ht htc
       rotate_left
      rotate_left 3
      focus
       have hwn:=R8 (right:=r) ht0 Qb.out (htc ▸ hfi:kF t[0]=true);have cS:=Vf t w2 (by omega);obtain ⟨n,hn⟩:∃ n,dz kF t 0=n:=⟨_,rfl⟩;rw [hn] at cS hwn;obtain ⟨hwn,hn1,hn2⟩:=hwn;have HW:=hid hwn;clear hfi hn hwn
       go_wp2_with fail
       refine cS.mono ?_;rintro e w6 ⟨rfl,hb6⟩;have KE:=HB1.out.below hb6;have Qc:Row d v O w6:=aR HR1.out hb6;have hL6:Below w.heap.size w w6:=Cg.out.trans (hb6.mono Cg.out.size);obtain ⟨hik,hfin⟩:=qY HS.out hlt HC.out KD.out ht HCM.out HW.out hL6 hd;have HF:=hid hfin;have cT:=fB d s r i n 1 v O w6 KE Qc hf hs hik;clear KE Qc hL6 cS hb6;clear hfin ht htc
      rotate_left
     rotate_left 4
     focus
      have hwn:=OI (right:=r) ht0 (htc ▸ hle:mo t[0]=true);have cS:=Sf t w2 (by omega);obtain ⟨n,hn⟩:∃ n,dz rV t 0=n:=⟨_,rfl⟩;rw [hn] at cS hwn;obtain ⟨hwn,hn1,hn2⟩:=hwn;obtain ⟨y,hy⟩:∃ y,t.extract 0 n=y:=⟨_,rfl⟩;rw [hy] at hwn;obtain ⟨x,hx⟩:∃ x:Int,(if zS y.toList then 3 else 0)=x:=⟨_,rfl⟩
      have cO:=fun X=>LU y X
      simp only [hx] at cO;rw [hx] at hwn;have HW:=hid hwn;clear hle hn hwn hx
      go_wp2_with fail
      refine cS.mono ?_;rintro e w6 ⟨rfl,hb6⟩;have nM:=hid (HB1.out.below hb6);have Ao:Hid (Row d v O w6):=hid (aR HR1.out hb6);have HL6:Hid (Below w.heap.size w w6):=hid (Cg.out.trans (hb6.mono Cg.out.size));obtain ⟨hik,hfin⟩:=qY HS.out hlt HC.out KD.out ht HCM.out HW.out HL6.out hd;have HF:=hid hfin;have cT:=fB d s r i n x v O w6 nM.out Ao.out hf hs hik;clear cS hb6 hfin
      go_wp2_with fail
      refine (cO w6).mono ?_;rintro e w7 ⟨rfl,rfl⟩;clear cO hy ht htc
     rotate_left
     all_goals
      go_wp2_with fail
      refine cT.mono ?_;rintro e w8 ⟨rfl,hT⟩;have HT:=hid (HF.out w8 ⟨rfl,hT⟩);clear cT hT
      go_wp2_with fail
      refine fT (aD rfl _ _ _) rfl ?_;rw [← HQ.out]
      exact HT.out
end S
namespace U
open Go.Shelf
def Sn:Go.Shelf.Ren:=⟨fun|196=>87|259=>111|n=>n,fun|9=>9|4=>4|3=>3|5=>5|12=>12|119=>136|0=>0|46=>140|139=>139|138=>138|53=>148|n=>n,fun|3=>0|4=>1|n=>n⟩
theorem lays:Lays.n196 Tryz.prog Sn:={
 mixed:=by kernel_rfl,
 f196:=Tryz.func87.trans (congrArg some (by kernel_rfl)),
 f259:=Tryz.func111.trans (congrArg some (by kernel_rfl)),
 t0:=Tryz.underlying0,
 a0:=Tryz.isAgg0,
 z0:=Tryz.sizeOf0,
 v0:=Tryz.zeroValue0,
 t3:=Tryz.underlying3,
 a3:=Tryz.isAgg3,
 z3:=Tryz.sizeOf3,
 v3:=Tryz.zeroValue3,
 t4:=Tryz.underlying4,
 a4:=Tryz.isAgg4,
 z4:=Tryz.sizeOf4,
 v4:=Tryz.zeroValue4,
 t5:=Tryz.underlying5,
 a5:=Tryz.isAgg5,
 z5:=Tryz.sizeOf5,
 v5:=Tryz.zeroValue5,
 t9:=Tryz.underlying9,
 a9:=Tryz.isAgg9,
 z9:=Tryz.sizeOf9,
 v9:=Tryz.zeroValue9,
 t12:=Tryz.underlying12,
 a12:=Tryz.isAgg12,
 z12:=Tryz.sizeOf12,
 v12:=Tryz.zeroValue12,
 t46:=Tryz.underlying140,
 a46:=Tryz.isAgg140,
 z46:=Tryz.sizeOf140,
 v46:=Tryz.zeroValue140,
 t53:=Tryz.underlying148,
 a53:=Tryz.isAgg148,
 z53:=Tryz.sizeOf148,
 v53:=Tryz.zeroValue148,
 t119:=Tryz.underlying136,
 a119:=Tryz.isAgg136,
 z119:=Tryz.sizeOf136,
 t138:=Tryz.underlying138,
 a138:=Tryz.isAgg138,
 z138:=Tryz.sizeOf138,
 v138:=Tryz.zeroValue138,
 t139:=Tryz.underlying139,
 a139:=Tryz.isAgg139,
 z139:=Tryz.sizeOf139,
 v139:=Tryz.zeroValue139,
 g3:=by kernel_rfl,
 g4:=by kernel_rfl }
end U
namespace U
open Go.RowKit
open Go.Lib hiding intOf
def rM (w:World):Prop:=Lib.Utf8Tabs 0 1 w
theorem rM.later {w w':World} (hT:rM w) (hb:Below w.heap.size w w'):rM w':=Utf8Tabs_below hT hb
theorem Fy (s:ByteArray) (w:World) (hs:s.size≤1099511627776) (hT:rM w) :
  Calls Tryz.prog 70 #[.string s] w fun e w'=>e=.returned (.bool (okB s))∧Below w.heap.size w w':=by
 have cV:Calls Tryz.prog 87 #[.string s] w (fun e w'=>e=.returned (.bool (Lib.validD s.data.toList))∧Below w.heap.size w w'):=Any.utf8_ValidString lays s w (by omega) hT;rw [Qm s] at cV;generalize okB s=V at cV ⊢
 go_enter Tryz.func70,Tryz.ntmps70
 go_wp2_with (go_at_call 87;refine cV.mono ?_;rintro e w' ⟨rfl,hb⟩)
 go_ret
 exact ⟨rfl,hb⟩
end U
namespace S
open Go.RowKit
open Go.Lib hiding intOf
open U L
def Jo (d:Nat) (w:World):Nat:=match w.cell? ⟨d,2,none⟩ with
 | some (.int _ k)=>k.toNat
 | _=>0
theorem qX.at {d:Nat} {s:ByteArray} {r:Bool} {i:Nat} {v:Value} {w:World} (h:qX d s r i v w):Jo d w=i:=by unfold Jo;rw [h.c2];rfl
theorem Sq (s:ByteArray):yl 5 (s.extract s.size (s.size+0)) s.size (s.size+0)=⟨5,[],s.size,s.size⟩:=by
 unfold yl
 have h:(s.extract s.size (s.size+0)).toList=[]:=by rw [ext_list,xR s (ae _),List.take_nil]
 rw [h];rfl
theorem JL (s:ByteArray) (w:World) (hs:s.size≤1099511627776) (hT:rM w) :
  Calls Tryz.prog 48 #[.string s] w fun e w'=>∃ v,e=.returned v∧K3 w.heap.size w' (fD (okB s) s.toList) v∧Below w.heap.size w w':=by
 have cR:=Fy s w hs hT;obtain ⟨r,hr⟩:∃ r,okB s=r:=⟨_,rfl⟩;have Jr:Hid (og r s 0 []):=hid (xY r s (fun h=>by rw [hr];exact h));rw [hr] at cR ⊢;clear hr
 go_enter Tryz.func48,Tryz.ntmps48
 go_wp2_with fail
 refine cR.mono ?_;rintro e w1 ⟨rfl,hb1⟩;have HB1:=hid hb1;clear cR hb1
 go_wp2_with fail
 obtain ⟨d,hd⟩:∃ d,w1.heap.size=d:=⟨_,rfl⟩;obtain ⟨W0,hW0⟩:∃ W,w1.alloc (.cells #[.string s,.bool r,.int .i64 0,.slice none 0 0] 107)=W:=⟨_,rfl⟩;have HB0:Hid (qX d s r ((0:Nat):Int) (.slice none 0 0) W0):=hid (by rw [← hd,← hW0];exact aG w1 _);have HL0:Hid (Below d w1 W0):=hid (by rw [← hW0];exact (ah d w1).alloc (by omega) _)
 have hwd:w.heap.size≤d:=by have:=HB1.out.size;omega
 rw [hd,hW0];clear hW0 hd
 go_loopw [] (fun wr=>∃ (i:Nat) (O:List bn) (v:Value),i≤s.size∧Hid (qX d s r i v wr)∧Hid (Row d v O wr)∧Hid (og r s i O)∧Hid (vo (d+1) d W0 wr)) (fun wr=>s.size - Jo d wr)
 case atStart=>exact ⟨0,[],_,aM _,HB0,hid (dB _ _ _ _),Jr,hid (vo.refl _ _ _)⟩
 case round =>
  obtain ⟨i,O,v,hi,HB,HR,HS,HM⟩:=hrel;clear Jr HB0;have h2:=HB.out.c2;have hat:=HB.out.at
  by_cases hlt:i<s.size
  ·have cS:=zh d s r i v O wr HB.out HR.out HS.out hlt hs
   go_wp2_with fail
   refine cS.mono ?_;rintro e w2 ⟨j,O2,hij,hjs,hS2,rfl,v2,hB2,hR2,hM2⟩;have Ex:=hB2.at;have HB2:=hid hB2;have HR2:=hid hR2;have HS2:=hid hS2;have kG:=hid (HM.out.trans hM2);clear cS hB2 hR2 hS2 hM2 h2
   go_wp2_with fail
   go_roundw
   case rel=>exact ⟨j,O2,v2,hjs,HB2,HR2,HS2,kG⟩
   case measure=>rw [hat,Ex];omega
  ·obtain rfl:i=s.size:=by omega
   have cM:=yj d s r s.size v O wr HB.out HR.out (by have:=HS.out.few;omega);clear hat
   go_wp2_with fail
   refine cM.mono ?_;rintro e w2 ⟨rfl,hb2⟩;have HB2:=hid (HB.out.below hb2);have HR2:Hid (Row d v O w2):=hid (aR HR.out hb2);have hdw:=HB.out.lt;have kG:Hid (vo (d+1) d W0 w2):=hid (HM.out.trans (vo.of_below (⟨hb2.os,hb2.tape,hb2.output,hb2.size,fun k hk=>hb2.block k (by omega)⟩:Below (d+1) wr w2)))
   have hfin:∀ (w':World),vo (d+1) d W0 w'→Below w.heap.size w w':=fun w' hm =>
    HB1.out.trans ((HL0.out.trans ((hm.mono (dY d)).below (ae d))).mono hwd)
   have HF:=hid hfin;clear cM hb2 h2 hfin
   cases hen:sW O
   ·have HX:Hid (fD r s.toList=O):=hid (by have h:=HS.out.all;rw [nL,hen] at h;simpa using h)
    have h3:=HB2.out.c3;clear hen
    go_wp2_with fail
    go_ret
    exact ⟨_,rfl,by rw [HX.out];exact vV HR2.out rfl (by omega),HF.out _ kG.out⟩
   ·have HX:Hid (fD r s.toList=O++[⟨5,[],s.size,s.size⟩]):=hid (by have h:=HS.out.all;rw [nL,hen] at h;simpa using h)
    have cT:=fB d s r s.size 0 5 v O w2 HB2.out HR2.out (by have:=HS.out.few;omega) hs (by omega);rw [Sq] at cT;clear hen
    go_wp2_with fail
    refine cT.mono ?_;rintro e w3 ⟨rfl,v3,hB3,Eu,vB⟩;have h3:=hB3.c3;have HR3:=hid Eu;have lh:=hid (kG.out.trans vB);clear cT hB3 Eu vB
    go_wp2_with fail
    go_ret
    exact ⟨_,rfl,by rw [HX.out];exact vV HR3.out rfl (by omega),HF.out _ lh.out⟩
end S
end Go.Proofs.YtojoahlpgmnbnaaGreatDoor
