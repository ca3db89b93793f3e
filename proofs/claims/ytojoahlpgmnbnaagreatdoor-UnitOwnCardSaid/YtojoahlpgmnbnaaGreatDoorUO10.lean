/- What the claim needs of the texts KRead, PPlain, PSmall, PSpan, PBlk, PMark, Shelf, PStep, Lays, WalksR, PScan. -/
import Derived.Test.YtojoahlpgmnbnaaGreatDoorUOOp
import Derived.Test.YtojoahlpgmnbnaaGreatDoorUO9
import Derived.Deep.LoopGhost
import Derived.Test.YtojoahlpgmnbnaaGreatDoorUO2
import Derived.Laws.AppendOwn
import Derived.Maps.AppendAt
import Derived.Deep.DeepMust
import Derived.Laws.Pointers
import Derived.Deep.RegionHeld3
import Derived.Deep.RegionWith
import Derived.Lib.SmallJoins
import Derived.BigRegion
import Derived.Deep.DeepCutAuto
import Derived.Shelf.LaysM
import Derived.Shelf.Strconv.Clone
import Derived.Shelf.Strings.Prefix
import Derived.Test.YtojoahlpgmnbnaaGreatDoorProg
import Derived.Shelf.Unicode.ValidAny
import Derived.Test.YtojoahlpgmnbnaaGreatDoorUO1
import Derived.WalkKit
import Derived.WalkMore
import Derived.WalkSmall
import Derived.Below
import Derived.Lib.Hide
set_option maxRecDepth 20000
set_option maxHeartbeats 16000000
namespace Go.Proofs.YtojoahlpgmnbnaaGreatDoor
namespace K
open Go.RowKit
open Go.Lib hiding intOf
open U S T
section
variable {d:Nat} {L:List aZ} {size:Nat} {lv:Value} {s:St} {O:Nat→Prop}
theorem oq {O':Nat→Prop} {W X:World} {b j:Nat} {v:Value} (h:bN O O' W X) (hb:W.heap.size≤b):bN O O' W (X.setCell ⟨b,j,none⟩ v) :=
 ⟨h.os,h.tape,h.output,by simp;exact h.size,h.own,fun k hk hO=>(ak _ _ _ _ (by show k≠b;omega)).trans (h.block k hk hO)⟩
def Ro:Value:=.agg #[.string ⟨#[]⟩,.string ⟨#[]⟩,.int .i64 0,.int .i64 0,.slice none 0 0]
def Told (L:List aZ) (size:Nat) (O:Nat→Prop) (W:World):xg→Ending→World→Prop
 | .part p,e,W'=>∃ qB O',e=.returned (.tuple #[.agg (five p qB).toArray,.int .i64 0,.int .i64 0])∧aT W' (Fr O' W') p qB∧bN O O' W W'
 | .bad j,e,W'=>∃ O',e=.returned (.tuple #[Ro,.int .i64 (tok L size j).f,.int .i64 101])∧bN O O' W W'
theorem AZ {W:World} {B:Nat} {t:TypeId} (h:W.heap[B]?=some (.cells #[.string ⟨#[]⟩,.string ⟨#[]⟩,.int .i64 0,.int .i64 0,.slice none 0 0] t (0,0))) (off:Nat) (k:By) (hk:k≠[]):W.cell? ⟨B,off,none⟩≠some (.string (aU k)):=by
 have hs:(⟨#[]⟩:ByteArray)≠aU k:=fun e=>hk (by
  have:=congrArg (fun b:ByteArray=>b.data.toList) e
  simpa [aU] using this.symm)
 intro h1
 unfold World.cell? at h1
 rw [h] at h1
 rcases off with _|_|_|_|_|n
 ·simp at h1;exact hs h1
 ·simp at h1;exact hs h1
 ·simp at h1
 ·simp at h1
 ·simp at h1
 ·simp at h1
theorem E8 {W:World} {B:Nat} {t:TypeId} {ik:IntKind} {z:Int} (h:W.heap[B]?=some (.cells #[.int ik z] t (0,0))) (off:Nat) (k:By):W.cell? ⟨B,off,none⟩≠some (.string (aU k)):=by
 intro h1
 unfold World.cell? at h1
 rw [h] at h1
 rcases off with _|n
 ·simp at h1
 ·simp at h1
theorem yV {W:World} (hM:Mem d L size lv ⟨0,[],[root]⟩ O W) (hL:∀ t∈L,vB t) (hl:L.length≤1660) (hG:Et O W) :
  Calls Tryz.prog 76 #[ptr d] W (Told L size O W (oQ L)):=by
 have oh:=oh;have HR:=hid (Jm (size:=size) hL);have HN:=hid (fun p (h:oQ L=.part p)=>BN h);obtain ⟨fa,hfa⟩:∃ fa,oQ L=fa:=⟨_,rfl⟩;rw [hfa] at HR HN ⊢;clear hfa
 go_enter_defers Tryz.func76,Tryz.ntmps76
 go_wp2_with fail
 obtain ⟨V,hV⟩:∃ V,((W.alloc (.cells #[.string ⟨#[]⟩,.string ⟨#[]⟩,.int .i64 0,.int .i64 0,.slice none 0 0] 49)).alloc (.cells #[.int .i64 0] 3)).alloc (.cells #[.int .i64 0] 50)=V:=⟨_,rfl⟩
 have TQ:Below W.heap.size W V:=by rw [← hV];exact (((aj _ _).alloc (ae _) _).alloc (by simp) _).alloc (by simp;omega) _
 have NK:V.heap.size=W.heap.size+1+1+1:=by rw [← hV];simp
 have hp2:V.heap[W.heap.size+1+1]?=some (.cells #[.int .i64 0] 50 (0,0)):=by
  rw [← hV];have h:=fO ((W.alloc (.cells #[.string ⟨#[]⟩,.string ⟨#[]⟩,.int .i64 0,.int .i64 0,.slice none 0 0] 49)).alloc (.cells #[.int .i64 0] 3)) (.cells #[.int .i64 0] 50);simp only [aX] at h
  exact h
 have hp1:V.heap[W.heap.size+1]?=some (.cells #[.int .i64 0] 3 (0,0)):=by
  rw [← hV,dx _ _ _ (by simp)];have h:=fO (W.alloc (.cells #[.string ⟨#[]⟩,.string ⟨#[]⟩,.int .i64 0,.int .i64 0,.slice none 0 0] 49)) (.cells #[.int .i64 0] 3);simp only [aX] at h
  exact h
 have hp0:V.heap[W.heap.size]?=some (.cells #[.string ⟨#[]⟩,.string ⟨#[]⟩,.int .i64 0,.int .i64 0,.slice none 0 0] 49 (0,0)):=by
  rw [← hV,dx _ _ _ (by simp;omega),dx _ _ _ (by simp)]
  exact fO _ _
 rw [hV];have hMV:=hM.below TQ;have ct:=dJ hMV [.m .decl,.m .vw,.m .nC] [.func (.func 101) #[ptr d] #[],.func (.func 102) #[ptr d] #[],.func (.func 103) #[ptr d] #[]] 3 rfl ⟨_,_,rfl,rfl,⟨_,_,rfl,rfl,⟨_,_,rfl,rfl,rfl⟩⟩⟩ (by decide) (aL _);rw [NK] at ct
 have hnO:∀ k,W.heap.size≤k→¬ O k:=fun k hk hO=>by have:=hM.lt k hO;omega
 have HF0:=hid (show Fr O V W.heap.size from ⟨by omega,hnO _ (ae _),_,hp0,rfl⟩);have Ev:=hid (show Fr O V (W.heap.size+1) from ⟨by omega,hnO _ (by omega),_,hp1,rfl⟩);have ZM:=hid (show Fr O V (W.heap.size+1+1) from ⟨by omega,hnO _ (by omega),_,hp2,rfl⟩);have Ya:=hid (hG.stay (bN.of_below TQ));have HV:=hid TQ;have HP:=hid (And.intro hp0 (And.intro hp1 hp2));clear hV TQ NK hp0 hp1 hp2 hnO hMV hM hG;refine ct.mono ?_;rintro e w1 ⟨rfl,O1,hM1,hS1⟩;dsimp only;have dP:=hid hM1;have Gt:=hid hS1;have HG1:=hid (Ya.out.stay hS1);have HL:=hid hL;have Hl:=hid hl;clear ct hM1 hS1 Ya hL hl
 go_wp2_with fail
 go_loopg [] (100*L.length+100) (fun k wr=>∃ (m:Nat) (s:St) (O2:Nat→Prop),Hid (Comes L size k s fa)∧Hid (Sz m s)∧Hid (m+k≤100*L.length+100)∧Hid (vP L s)∧Hid (Mem d L size lv s O2 wr)∧Hid (bN O O2 V wr)∧Hid (Et O2 wr))
 case atStart=>exact ⟨0,begun,O1,HR,hid Re,hid (by omega),hid C5,dP,Gt,HG1⟩
 case round =>
  obtain ⟨m,s,O2,HC,HZ,HB,HOk,kG,HS2,Ww⟩:=hrel;clear dP Gt HG1
  by_cases ht:s.todo=[]
  ·obtain ⟨sa,sc,k2⟩:=Oi kG.out ht
   have HT:=hid ht;obtain ⟨p,f,rfl,hop⟩:=Oh HC.out ht;obtain ⟨tv,ov,bs,vs,xs,hX⟩:=id kG.out;obtain ⟨tg,tc,tkv,ks,mF,qp,GH⟩:=nG hX hop;have cT:=nu hX GH (aL _) (aj _ _);have aaX:=hid GH;clear ht hX GH hop
   go_wp2_with fail
   refine cT.mono ?_;rintro e w2 ⟨rfl,m2,rfl⟩;dsimp only;have GH:=aaX.out.drewN m2;have Km:Hid (bN O O2 V (wr.drewN m2)):=hid (HS2.out.trans (bN.of_below (jX wr m2)));have k4:=GH.cell 4 _ rfl
   obtain ⟨qB,aaY⟩:∃ qB,ks=five p qB∧aT (wr.drewN m2) (Fr O2 (wr.drewN m2)) p qB:=by
    obtain ⟨qB,rest,h1,h2,h3⟩:=GH.parts;obtain rfl:rest=[]:=h3
    exact ⟨qB,by rw [h1,eB],h2⟩
   have bY:=GH.own;clear cT aaX;generalize wr.drewN m2=W2 at k4 GH Km aaY bY ⊢;obtain ⟨rfl,Ab⟩:=aaY;obtain ⟨pa,pn,pc,rfl⟩:=eF Ab;obtain ⟨q0,q1,q2,q3,h5⟩:=zS p (.slice pa pn pc);have hlen1:(root.add p f).kids.length=0+1:=rfl;rw [hlen1] at bY;obtain ⟨kg,kc,rfl,_,hkl⟩:=bY.form (dX _)
   have c0:W2.cell? ⟨kg,0,none⟩=some (.string q0):=by rw [bY.cellAt 0 (by decide),h5];rfl
   have c1:W2.cell? ⟨kg,1,none⟩=some (.string q1):=by rw [bY.cellAt 1 (by decide),h5];rfl
   have c2:W2.cell? ⟨kg,2,none⟩=some (.int .i64 q2):=by rw [bY.cellAt 2 (by decide),h5];rfl
   have c3:W2.cell? ⟨kg,3,none⟩=some (.int .i64 q3):=by rw [bY.cellAt 3 (by decide),h5];rfl
   have c4:W2.cell? ⟨kg,4,none⟩=some (.slice pa pn pc):=by rw [bY.cellAt 4 (by decide),h5];rfl
   replace k4:W2.cell? ⟨tg,4,none⟩=some (.slice (some ⟨kg,0,none⟩) (0+1) kc):=k4;have b0:=(Km.out.at HF0.out).trans HP.out.1;have b1:=(Km.out.at Ev.out).trans HP.out.2.1;have b2:=(Km.out.at ZM.out).trans HP.out.2.2;obtain ⟨B,hB⟩:∃ B,W.heap.size=B:=⟨_,rfl⟩;have HBe:=hid hB;rw [hB] at b0 b1 b2 ⊢;clear hB
   have z0:W2.cell? ⟨B,0,none⟩=some (.string ⟨#[]⟩):=by simp [World.cell?,b0]
   have z1:W2.cell? ⟨B,1,none⟩=some (.string ⟨#[]⟩):=by simp [World.cell?,b0]
   have z2:W2.cell? ⟨B,2,none⟩=some (.int .i64 0):=by simp [World.cell?,b0]
   have z3:W2.cell? ⟨B,3,none⟩=some (.int .i64 0):=by simp [World.cell?,b0]
   have z4:W2.cell? ⟨B,4,none⟩=some (.slice none 0 0):=by simp [World.cell?,b0]
   have fz:∀ j,W2.frozen? ⟨B,j,none⟩=false:=fun j=>by simp [World.frozen?,b0]
   have z5:W2.cell? ⟨B+1,0,none⟩=some (.int .i64 0):=by simp [World.cell?,b1]
   have z6:W2.cell? ⟨B+1+1,0,none⟩=some (.int .i64 0):=by simp [World.cell?,b2]
   have fz1:W2.frozen? ⟨B+1,0,none⟩=false:=by simp [World.frozen?,b1]
   have fz2:W2.frozen? ⟨B+1+1,0,none⟩=false:=by simp [World.frozen?,b2]
   have HK:=hid Ab;have H5:=hid h5;clear GH bY Ab h5 hkl hlen1
   go_wp2_with fail
   refine leaves_cons (f:=99) (args:=#[.pointer (some ⟨B+1,0,none⟩),.pointer (some ⟨B+1+1,0,none⟩)]) (by simp) (by simp [go_sem]) ?_;refine (Lh _ _ _).mono ?_;rintro e u' w'' ⟨rfl,rfl,rfl⟩
   have WG:∀ k,B≤k→W.heap.size≤k:=fun k hk=>by have:=HBe.out;omega
   have s0:=az b0 (i:=0) (.string q0);have s1:((W2.setCell ⟨B,0,none⟩ (.string q0)).setCell ⟨B,1,none⟩ (.string q1)).heap[B]?=some (.cells #[.string q0,.string q1,.int .i64 0,.int .i64 0,.slice none 0 0] 49 (0,0)):=az s0 (.string q1);have s2:(((W2.setCell ⟨B,0,none⟩ (.string q0)).setCell ⟨B,1,none⟩ (.string q1)).setCell ⟨B,2,none⟩ (.int .i64 q2)).heap[B]?=some (.cells #[.string q0,.string q1,.int .i64 q2,.int .i64 0,.slice none 0 0] 49 (0,0)):=az s1 (.int .i64 q2);have s3:((((W2.setCell ⟨B,0,none⟩ (.string q0)).setCell ⟨B,1,none⟩ (.string q1)).setCell ⟨B,2,none⟩ (.int .i64 q2)).setCell ⟨B,3,none⟩ (.int .i64 q3)).heap[B]?=some (.cells #[.string q0,.string q1,.int .i64 q2,.int .i64 q3,.slice none 0 0] 49 (0,0)):=az s2 (.int .i64 q3);have s4:(((((W2.setCell ⟨B,0,none⟩ (.string q0)).setCell ⟨B,1,none⟩ (.string q1)).setCell ⟨B,2,none⟩ (.int .i64 q2)).setCell ⟨B,3,none⟩ (.int .i64 q3)).setCell ⟨B,4,none⟩ (.slice pa pn pc)).heap[B]?=some (.cells #[.string q0,.string q1,.int .i64 q2,.int .i64 q3,.slice pa pn pc] 49 (0,0)):=az s3 (.slice pa pn pc)
   have pP:∀ k,k≠B→(((((W2.setCell ⟨B,0,none⟩ (.string q0)).setCell ⟨B,1,none⟩ (.string q1)).setCell ⟨B,2,none⟩ (.int .i64 q2)).setCell ⟨B,3,none⟩ (.int .i64 q3)).setCell ⟨B,4,none⟩ (.slice pa pn pc)).heap[k]?=W2.heap[k]?:=fun k hk =>
    (ak _ _ _ _ hk).trans ((ak _ _ _ _ hk).trans ((ak _ _ _ _ hk).trans ((ak _ _ _ _ hk).trans (ak _ _ _ _ hk))))
   have Ep:bN O O2 W (((((W2.setCell ⟨B,0,none⟩ (.string q0)).setCell ⟨B,1,none⟩ (.string q1)).setCell ⟨B,2,none⟩ (.int .i64 q2)).setCell ⟨B,3,none⟩ (.int .i64 q3)).setCell ⟨B,4,none⟩ (.slice pa pn pc)) :=
    oq (oq (oq (oq (oq ((bN.of_below HV.out).trans Km.out) (WG _ (ae _))) (WG _ (ae _))) (WG _ (ae _))) (WG _ (ae _))) (WG _ (ae _))
   have Ef:(((((W2.setCell ⟨B,0,none⟩ (.string q0)).setCell ⟨B,1,none⟩ (.string q1)).setCell ⟨B,2,none⟩ (.int .i64 q2)).setCell ⟨B,3,none⟩ (.int .i64 q3)).setCell ⟨B,4,none⟩ (.slice pa pn pc)).heap.size=W2.heap.size:=by simp
   generalize ((((W2.setCell ⟨B,0,none⟩ (.string q0)).setCell ⟨B,1,none⟩ (.string q1)).setCell ⟨B,2,none⟩ (.int .i64 q2)).setCell ⟨B,3,none⟩ (.int .i64 q3)).setCell ⟨B,4,none⟩ (.slice pa pn pc)=W5 at s4 pP Ep Ef ⊢;obtain ⟨Wf,hWf⟩:∃ X,(W5.setCell ⟨B+1,0,none⟩ (.int .i64 0)).setCell ⟨B+1+1,0,none⟩ (.int .i64 0)=X:=⟨_,rfl⟩
   have Yb:∀ k,k≠B→k≠B+1→k≠B+1+1→Wf.heap[k]?=W2.heap[k]?:=fun k h1 h2 h3=>by rw [← hWf];exact (ak _ _ _ _ h3).trans ((ak _ _ _ _ h2).trans (pP k h1))
   have f0:Wf.heap[B]?=some (.cells #[.string q0,.string q1,.int .i64 q2,.int .i64 q3,.slice pa pn pc] 49 (0,0)):=by rw [← hWf];exact (ak _ _ _ _ (by show B≠B+1+1;omega)).trans ((ak _ _ _ _ (by show B≠B+1;omega)).trans s4)
   have e1:W5.heap[B+1]?=some (.cells #[.int .i64 0] 3 (0,0)):=(pP _ (by omega)).trans b1;have e2:W5.heap[B+1+1]?=some (.cells #[.int .i64 0] 50 (0,0)):=(pP _ (by omega)).trans b2;have g1:=az e1 (i:=0) (.int .i64 0);have g2:(W5.setCell ⟨B+1,0,none⟩ (.int .i64 0)).heap[B+1+1]?=_:=(ak _ _ _ _ (by show B+1+1≠B+1;omega)).trans e2
   have f1:Wf.heap[B+1]?=some (.cells #[.int .i64 0] 3 (0,0)):=by rw [← hWf];exact (ak _ _ _ _ (by show B+1≠B+1+1;omega)).trans g1
   have f2:Wf.heap[B+1+1]?=some (.cells #[.int .i64 0] 50 (0,0)):=by rw [← hWf];exact az g2 (.int .i64 0)
   have PS:bN O O2 W Wf:=by rw [← hWf];exact oq (oq Ep (WG _ (by show B≤B+1;omega))) (WG _ (by show B≤B+1+1;omega))
   have hzf:W2.heap.size≤Wf.heap.size:=by rw [← hWf];simp;omega
   have UC:aT Wf (Fr O2 Wf) p (.slice pa pn pc):=by
    have hl:=xQ (W:=W2) (R:=Fr O2 W2) (X:=fun g=>g=B∨g=B+1∨g=B+1+1) (fun g off k hg hk=>by
     rcases hg with rfl|rfl|rfl
     ·exact AZ b0 off k hk
     ·exact E8 b1 off k
     ·exact E8 b2 off k) p _ (HN.out p rfl) HK.out
    refine aT.later (fun g hg _=>Yb g (fun e=>hg.2 (.inl e)) (fun e=>hg.2 (.inr (.inl e))) (fun e=>hg.2 (.inr (.inr e)))) (fun g hg=>?_) p _ hl;have ho:=Yb g (fun e=>hg.2 (.inl e)) (fun e=>hg.2 (.inr (.inl e))) (fun e=>hg.2 (.inr (.inr e)))
    exact ⟨aD hg.1.1 hzf,hg.1.2.1,by rw [ho];exact hg.1.2.2⟩
   rw [hWf];have hT:Told L size O W (xg.part p) (.returned (.tuple #[.agg #[.string q0,.string q1,.int .i64 q2,.int .i64 q3,.slice pa pn pc],.int .i64 0,.int .i64 0])) Wf:=⟨_,O2,by rw [H5.out],UC,PS⟩
   have y0:Wf.cell? ⟨B,0,none⟩=some (.string q0):=by simp [World.cell?,f0]
   have y1:Wf.cell? ⟨B,1,none⟩=some (.string q1):=by simp [World.cell?,f0]
   have y2:Wf.cell? ⟨B,2,none⟩=some (.int .i64 q2):=by simp [World.cell?,f0]
   have y3:Wf.cell? ⟨B,3,none⟩=some (.int .i64 q3):=by simp [World.cell?,f0]
   have y4:Wf.cell? ⟨B,4,none⟩=some (.slice pa pn pc):=by simp [World.cell?,f0]
   have y5:Wf.cell? ⟨B+1,0,none⟩=some (.int .i64 0):=by simp [World.cell?,f1]
   have y6:Wf.cell? ⟨B+1+1,0,none⟩=some (.int .i64 0):=by simp [World.cell?,f2]
   clear f0 f1 f2 b0 b1 b2 s0 s1 s2 s3 s4 pP Yb e1 e2 g1 g2 Ep Ef PS UC hzf c0 c1 c2 c3 c4 k4 z0 z1 z2 z3 z4 z5 z6 fz fz1 fz2 WG
   simp [Leaves,Go.settle,results,Tryz.results76,go_sem,y0,y1,y2,y3,y4,y5,y6]
   exact hT
  ·obtain ⟨x,R,hx⟩:∃ x R,s.todo=x :: R:=by
    cases h:s.todo with
    | nil=>exact absurd h ht
    | cons x R=>exact ⟨x,R,rfl⟩
   obtain ⟨g,c,v,O3,k2,k2z,kv,hgc,hv,uT,Cy⟩:=Rh kG.out hx;obtain ⟨w3,hw3⟩:∃ w3,wr.setCell ⟨d,2,none⟩ (.slice (some ⟨g,0,none⟩) R.length c)=w3:=⟨_,rfl⟩;rw [hw3] at hv uT Cy
   have Rp:fC L size s=exec L size x { s with todo:=R }:=by unfold fC;rw [hx]
   have hZ:=HZ.out;have hB:=HB.out
   have hRl:R.length+1≤6*m+3:=by have:=hZ.todo;rw [hx] at this;exact this
   have hm:m≤166100:=by have:=Hl.out;omega
   have hstep:=Li HC.out (by rw [hx];simp)
   have hne:exec L size x { s with todo:=R }≠.stuck:=by
    rw [← Rp]
    rcases hstep with ⟨h,_⟩|⟨_,_,_,h,_⟩ <;> rw [h] <;> simp
   have hsm:Small L { s with todo:=R }:=⟨HOk.out.1,by have:=Hl.out;omega,by have:=Hl.out;show R.length≤_;omega,by have:=hZ.opn;have:=Hl.out;show s.opn.length≤_;omega,fun o ho=>by have:=hZ.kids o ho;have:=Hl.out;omega⟩;have hst:=yS uT hsm (Ww.out.stay Cy) (fun o ho=>by have:=hZ.kids o ho;have:=Hl.out;omega) (by have:=hZ.opn;have:=Hl.out;show s.opn.length<_;omega) hZ.EV hv hne;rw [← Rp] at hst
   have hRb:R.length≤1000000:=by have:=Hl.out;omega
   obtain ⟨rl,hrl⟩:∃ rl,R.length=rl:=⟨_,rfl⟩;rw [hrl] at k2 kv hgc hw3 hRb;obtain ⟨n1,hn1⟩:∃ n1,n1=rl+1:=⟨_,rfl⟩;rw [← hn1] at k2 hgc;have HW3:=hid hw3;have aaZ:=hid hstep;have HZ':=hid hZ;have Km:=hid Cy
   rcases hst with ⟨f,rfl,hcf,hcl⟩|⟨f,b1,b2,rfl,hcf,hcl⟩
   all_goals
    skip
    have HCl:=hid hcl;clear Cy hstep hZ hB hne hsm Rp hRl hm hx ht uT hv hw3 hcl
    go_wp2_with fail
    rw [HW3.out];refine HCl.out.mono ?_;rintro e w4 hD
    rcases aaZ.out with ⟨h1,rfl⟩|⟨k1,s1,hk1,h1,hcm⟩
    ·rw [h1] at hD
     obtain ⟨rfl,hb4⟩:=hD;have Hb4:=hid hb4;clear hb4 h1;dsimp only
     go_wp2_with fail
     have hS5:=((HS2.out.trans Km.out).trans (bN.of_below Hb4.out));have b0:=(hS5.at HF0.out).trans HP.out.1;have b1:=(hS5.at Ev.out).trans HP.out.2.1;have b2:=(hS5.at ZM.out).trans HP.out.2.2;obtain ⟨B,hBq⟩:∃ B,W.heap.size=B:=⟨_,rfl⟩;rw [hBq] at b0 b1 b2 ⊢;obtain ⟨z,hzz⟩:∃ z,(tok L size s.i).f=z:=⟨_,rfl⟩;rw [hzz];refine leaves_cons (f:=99) (args:=#[.pointer (some ⟨B+1,0,none⟩),.pointer (some ⟨B+1+1,0,none⟩)]) (by simp) (by simp [go_sem]) ?_;have b1':=az b1 (i:=0) (.int .i64 z);have b2':(w4.setCell ⟨B+1,0,none⟩ (.int .i64 z)).heap[B+1+1]?=_:=(ak _ _ _ _ (by show B+1+1≠B+1;omega)).trans b2;refine (Jl ⟨B+1,0,none⟩ ⟨B+1+1,0,none⟩ 0 0 z [] w4 (by simp [World.cell?,b1]) (by simp [World.frozen?,b1]) (by simp [World.cell?,b2']) (by simp [World.frozen?,b2'])).mono ?_;rintro e u' w'' ⟨rfl,rfl,rfl⟩;have PS:bN O O3 W ((w4.setCell ⟨B+1,0,none⟩ (.int .i64 z)).setCell ⟨B+1+1,0,none⟩ (.int .i64 101)):=oq (oq ((bN.of_below HV.out).trans hS5) (by omega)) (by omega);have b0':(w4.setCell ⟨B+1,0,none⟩ (.int .i64 z)).heap[B]?=_:=(ak _ _ _ _ (by show B≠B+1;omega)).trans b0;obtain ⟨Wf,hWf⟩:∃ X,(w4.setCell ⟨B+1,0,none⟩ (.int .i64 z)).setCell ⟨B+1+1,0,none⟩ (.int .i64 101)=X:=⟨_,rfl⟩
     have f0:Wf.heap[B]?=some (.cells #[.string ⟨#[]⟩,.string ⟨#[]⟩,.int .i64 0,.int .i64 0,.slice none 0 0] 49 (0,0)):=by rw [← hWf];exact (ak _ _ _ _ (by show B≠B+1+1;omega)).trans b0'
     have f1:Wf.heap[B+1]?=some (.cells #[.int .i64 z] 3 (0,0)):=by rw [← hWf];exact (ak _ _ _ _ (by show B+1≠B+1+1;omega)).trans b1'
     have f2:Wf.heap[B+1+1]?=some (.cells #[.int .i64 101] 50 (0,0)):=by rw [← hWf];exact az b2' (.int .i64 101)
     rw [hWf] at PS ⊢;have hT:Told L size O W (xg.bad s.i) (.returned (.tuple #[Ro,.int .i64 z,.int .i64 101])) Wf:=⟨O3,by rw [hzz],PS⟩
     have y0:Wf.cell? ⟨B,0,none⟩=some (.string ⟨#[]⟩):=by simp [World.cell?,f0]
     have y1:Wf.cell? ⟨B,1,none⟩=some (.string ⟨#[]⟩):=by simp [World.cell?,f0]
     have y2:Wf.cell? ⟨B,2,none⟩=some (.int .i64 0):=by simp [World.cell?,f0]
     have y3:Wf.cell? ⟨B,3,none⟩=some (.int .i64 0):=by simp [World.cell?,f0]
     have y4:Wf.cell? ⟨B,4,none⟩=some (.slice none 0 0):=by simp [World.cell?,f0]
     have y5:Wf.cell? ⟨B+1,0,none⟩=some (.int .i64 z):=by simp [World.cell?,f1]
     have y6:Wf.cell? ⟨B+1+1,0,none⟩=some (.int .i64 101):=by simp [World.cell?,f2]
     clear f0 f1 f2 b0 b1 b2 b0' b1' b2' PS hS5
     simp [Leaves,Go.settle,results,Tryz.results76,go_sem,y0,y1,y2,y3,y4,y5,y6]
     exact hT
    ·rw [h1] at hD
     obtain ⟨rfl,O4,Kk,Ep⟩:=hD;have hz1:=US HZ.out h1;have hok1:=EU size HL.out HOk.out h1;have mJ:=hid Kk;have XY:=hid ((HS2.out.trans Km.out).trans Ep);have HG4:=hid ((Ww.out.stay Km.out).stay Ep);have kH:=hid hz1;have xn:=hid hok1;have HC4:=hid hcm;have QY:=hid hk1;clear Kk Ep hz1 hok1 hcm h1 hk1;dsimp only
     go_wp2_with fail
     go_roundg k1
     case rel=>exact ⟨m+1,s1,O4,HC4,kH,hid (by have:=HB.out;have:=QY.out;omega),xn,mJ,XY,HG4⟩
     case measure=>have:=QY.out;omega
end
end K
namespace S
open Go.RowKit
open Go.Lib hiding intOf
open U L
theorem GI (n b0 b1 b2 b3:Nat) (h0:128≤b0):128≤(decodeN n b0 b1 b2 b3).1∧(1<(decodeN n b0 b1 b2 b3).2→1<n∧128≤b1)∧(2<(decodeN n b0 b1 b2 b3).2→2<n∧128≤b2)∧(3<(decodeN n b0 b1 b2 b3).2→3<n∧128≤b3)∧(decodeN n b0 b1 b2 b3).2≤4:=by
 unfold decodeN
 repeat' split
 all_goals (simp only;omega)
theorem Js {s:ByteArray} {i:Nat} (h:i<s.size) (hc:s[i].toNat<128):Utf8.decode s i=(s[i].toNat,1):=by
 rw [ig,Utf8W.get!_of_lt s i h,vF _ _ _ _ _ hc]
theorem E9 {s:ByteArray} {i:Nat} (h:i<s.size) (hc:128≤s[i].toNat):128≤(Utf8.decode s i).1∧∀ j (hj:j<s.size),i≤j→j<i+(Utf8.decode s i).2→128≤s[j].toNat:=by
 have hd:=GI (s.size - i) (s.get! i).toNat (s.get! (i+1)).toNat (s.get! (i+2)).toNat (s.get! (i+3)).toNat (by rw [Utf8W.get!_of_lt s i h];exact hc);rw [← ig] at hd;obtain ⟨h1,h2,h3,h4,h5⟩:=hd;refine ⟨h1,fun j hj hij hlt=>?_⟩
 have hg:=fun (k:Nat) (hk:k<s.size)=>Utf8W.get!_of_lt s k hk
 rcases (show j=i∨j=i+1∨j=i+2∨j=i+3 by omega) with rfl|rfl|rfl|rfl
 ·exact hc
 ·have:=(h2 (by omega)).2;rwa [hg _ hj] at this
 ·have:=(h3 (by omega)).2;rwa [hg _ hj] at this
 ·have:=(h4 (by omega)).2;rwa [hg _ hj] at this
structure A7 (P:Nat→Bool) (q:UInt8→Bool):Prop where
 low:∀ c:UInt8,c.toNat<128→P c.toNat=q c
 high:∃ d,(∀ r,128≤r→P r=d)∧∀ c:UInt8,128≤c.toNat→q c=d
theorem yX {q:UInt8→Bool} {s:ByteArray} {i:Nat}:∀ k,i+k≤s.size→(∀ j (hj:j<s.size),i≤j→j<i+k→q s[j]=true)→dB q s (i+k)=dB q s i
 | 0,_,_=>rfl
 | k+1,h,hp=>by
  rw [show i+(k+1)=(i+k)+1 by omega,q9 (by omega) (hp (i+k) (by omega) (by omega) (by omega))]
  exact yX k (by omega) (fun j hj h1 h2=>hp j hj h1 (by omega))
theorem UX {P:Nat→Bool} {q:UInt8→Bool} (hS:A7 P q) {s:ByteArray} {i:Nat} (h:i<s.size) (hp:P (Utf8.decode s i).1=true):dB q s (i+(Utf8.decode s i).2)=dB q s i:=by
 by_cases hc:s[i].toNat<128
 ·have e:=Js h hc
  rw [e] at hp ⊢;rw [hS.low _ hc] at hp
  exact q9 h hp
 ·obtain ⟨d,h1,h2⟩:=hS.high
  obtain ⟨h3,h4⟩:=E9 h (by omega);rw [h1 _ h3] at hp;have hw:=width_le s i h
  exact yX _ hw (fun j hj g1 g2=>by rw [h2 _ (h4 j hj g1 g2)];exact hp)
theorem Rq {P:Nat→Bool} {q:UInt8→Bool} (hS:A7 P q) {s:ByteArray} {i:Nat} (h:i<s.size) (hp:P (Utf8.decode s i).1=false):dB q s i=i:=by
 by_cases hc:s[i].toNat<128
 ·have e:=Js h hc
  rw [e,hS.low _ hc] at hp
  exact pV h hp
 ·obtain ⟨d,h1,h2⟩:=hS.high
  rw [h1 _ (E9 h (by omega)).1] at hp
  exact pV h (by rw [h2 _ (by omega)];exact hp)
def A8 (r:Nat):Bool:=decide ((97≤r∧r≤122)∨(65≤r∧r≤90)∨r=95)
def GJ (r:Nat):Bool:=decide (48≤r∧r≤57)
def Fa (r:Nat):Bool:=A8 r||GJ r
def Lp (r:Nat):Bool:=decide (r≠34∧r≠10)
def Dc (r:Nat):Bool:=decide (r≠10)
def tF (c:UInt8):Bool:=decide (c≠34∧c≠10)
theorem Rs (c:UInt8):A8 c.toNat=mh c:=by
 unfold mh A8
 have:decide (c=95)=decide (c.toNat=95):=by
  rw [decide_eq_decide]
  exact ⟨fun h=>by rw [h];rfl,fun h=>UInt8.toNat_inj.1 h⟩
 rw [this]
 simp [gQ,Bool.or_assoc]
theorem Rt (c:UInt8):GJ c.toNat=kE c:=by unfold kE GJ;simp [gQ]
theorem Yc (c:UInt8):Fa c.toNat=rR c:=by unfold Fa rR;rw [Rs,Rt]
theorem Yd (c d:UInt8):(c.toNat≠d.toNat) ↔ c≠d:=⟨fun h e=>h (by rw [e]),fun h e=>h (UInt8.toNat_inj.1 e)⟩
theorem Ye (c:UInt8):Dc c.toNat=rf c:=by
 unfold Dc rf
 rw [decide_eq_decide]
 exact Yd c 10
theorem aa0 (c:UInt8):Lp c.toNat=tF c:=by
 unfold Lp tF
 rw [decide_eq_decide]
 exact and_congr (Yd c 34) (Yd c 10)
theorem BO {P:Nat→Bool} {q:UInt8→Bool} (h:∀ c:UInt8,P c.toNat=q c) (d:Bool) (hd:∀ r,128≤r→P r=d):A7 P q :=
 ⟨fun c _=>h c,d,hd,fun c hc=>by rw [← h c];exact hd _ hc⟩
theorem Ru:A7 Fa rR:=BO Yc false (fun r h=>by unfold Fa A8 GJ;simp;omega)
theorem UY:A7 GJ kE:=BO Rt false (fun r h=>by unfold GJ;simp;omega)
theorem Rv:A7 Dc rf:=BO Ye true (fun r h=>by unfold Dc;simp;omega)
theorem UZ:A7 Lp tF:=BO aa0 true (fun r h=>by unfold Lp;simp;omega)
theorem MY (l:By):Lib.hasPrefix l [47,47]=(match l with|a :: b :: _=>a==47&&b==47|_=>false):=by
 unfold Lib.hasPrefix
 match l with
 | []=>rfl
 | [a]=>simp [List.isPrefixOf]
 | a :: b :: r=>simp [List.isPrefixOf,fU]
theorem U0 (s:ByteArray):(Lib.hasPrefix s.toList [47,47]=true∧0<eH s.toList∧dB rf s 0=eH s.toList)∨(Lib.hasPrefix s.toList [47,47]=false∧eH s.toList=0):=by
 unfold dB
 rw [MY,bM,bz];generalize s.toList=l
 match l with
 | []=>exact .inr ⟨rfl,rfl⟩
 | [a]=>exact .inr ⟨rfl,rfl⟩
 | a :: b :: r =>
  by_cases h:a=47∧b=47
  ·obtain ⟨rfl,rfl⟩:=h
   refine .inl ⟨rfl,?_,?_⟩
   ·simp only [eH,and_self,if_true];omega
   ·have e:rf 47=true:=by decide
    have:(fun c:UInt8=>decide (c≠10))=rf:=rfl;simp only [eH,and_self,if_true,bJ,e,aH,this];omega
  ·refine .inr ⟨?_,?_⟩
   ·simp only
    rw [Bool.and_eq_false_iff]
    by_cases h1:a=47
    ·exact .inr (by simpa using fun h2=>h ⟨h1,h2⟩)
    ·exact .inl (by simpa using h1)
   ·simp only [eH];rw [ai h]
theorem De:∀ r:By,iG r=(if r[(r.takeWhile tF).length]?=some 34 then some ((r.takeWhile tF).length+1) else none)
 | []=>by simp [iG]
 | c :: r=>by
  have ih:=De r
  by_cases h10:c=10
  ·subst h10;simp [iG,tF]
  ·by_cases xI:c=34
   ·subst xI;simp [iG,tF]
   ·have hq:tF c=true:=by simp [tF,h10,xI]
    simp only [iG,ai h10,ai xI,bJ,hq,if_true,aH,iw,ih]
    split <;> simp
theorem Rw {s:ByteArray} (h0:0<s.size) (hc:s[0]=34) {k:Nat} (hk:dB tF (s.extract 1 s.size) 0=k) :
  (1+k=s.size∧gI s.toList=0)∨∃ h:1+k<s.size,(s[1+k]=34∧gI s.toList=1+k+1)∨(s[1+k]≠34∧gI s.toList=0):=by
 have hl:=fT s h0;rw [bM] at hl
 unfold dB at hk
 rw [bz,bM,kL] at hk;have hle:=Iw tF (s.toList.drop 1);rw [hk,bC,dR] at hle
 have Rx:gI s.toList=(match iG (s.toList.drop 1) with|none=>0|some n=>n+1):=by
  rw [show gI s.toList=gI (34 :: s.toList.drop (0+1)) from congrArg gI (hl.trans (by rw [hc]))];simp only [gI,if_true];rfl
 rw [De,hk,ib] at Rx
 by_cases he:1+k=s.size
 ·left
  refine ⟨he,?_⟩;rw [dh (by rw [dR];omega)] at Rx
  simpa using Rx
 ·right
  have hlt:1+k<s.size:=by omega
  refine ⟨hlt,?_⟩;rw [xK s hlt] at Rx
  by_cases xI:s[1+k]=34
  ·left
   rw [xI,ay rfl] at Rx;refine ⟨xI,?_⟩;simp only at Rx;omega
  ·right
   refine ⟨xI,?_⟩;rw [ai (by intro e;exact xI (aY e))] at Rx
   simpa using Rx
theorem MZ (s:ByteArray) (h0:0<s.size) {m:Nat} (hm:m=if 2≤s.size then 2 else s.size) {t:By} (ht:(s.extract 0 m).toList=t) :
  two s.toList=((t==[58,61])||(t==[61,61])||(t==[33,61])||(t==[60,61])||(t==[62,61])||(t==[38,38])||(t==[124,124])):=by
 subst ht
 by_cases h2:2≤s.size
 ·rw [ay h2] at hm
  subst hm;obtain ⟨t,h1,h3⟩:=KM s h2;rw [h1];exact h3
 ·rw [ai h2] at hm
  have hz:m=1:=by omega
  subst hz;rw [Nz s (by omega),sQ];have hl:=dR s
  match hh:s.toList with
  | []=>rw [hh] at hl;simp at hl;omega
  | [a]=>simp
  | a :: b :: r=>rw [hh] at hl;simp at hl;omega
theorem Ol {right:Bool} {s:ByteArray} (h0:0<s.size) (hc:mh s[0]=true):eX right s.toList=(if zJ (s.extract 0 (dB rR s 0)).toList then 3 else 0,dB rR s 0)∧0<dB rR s 0∧dB rR s 0≤s.size:=by
 have hn:gW s.toList=dB rR s 0:=by
  unfold dB
  rw [bz,bM];have hl:=fT s h0;rw [bM] at hl;rw [hl]
  have:rR s[0]=true:=by unfold rR;rw [hc];rfl
  simp only [gW,hc,if_true,bJ,this,aH];omega
 have hle:=F9 s.toList;rw [hn,dR] at hle
 have hp:0<dB rR s 0:=by
  rw [← hn];have hl:=fT s h0;rw [bM] at hl;rw [hl];simp only [gW,hc,if_true];omega
 refine ⟨?_,hp,hle⟩
 unfold eX
 rw [hn,ay hp,sQ]
theorem BP {s:ByteArray} (h0:0<s.size) (hc:mh s[0]=false):gW s.toList=0:=by
 have hl:=fT s h0;rw [bM] at hl;rw [hl]
 simp [gW,hc]
theorem Lr (s:ByteArray):nA s.toList=dB kE s 0:=by
 unfold nA dB
 rw [bz,bM]
theorem Ls {s:ByteArray} (h0:0<s.size) (hc:kE s[0]=false):nA s.toList=0:=by
 rw [Lr,pV h0 hc]
theorem Ry {right:Bool} {s:ByteArray} (h0:0<s.size) (hc:mh s[0]=false) (hf:kE s[0]=true):eX right s.toList=(1,dB kE s 0)∧0<dB kE s 0∧dB kE s 0≤s.size:=by
 have hp:0<dB kE s 0:=by
  rw [← q9 h0 hf]
  unfold dB;omega
 have hle:nA s.toList≤s.toList.length:=Iw _ _;rw [Lr,dR] at hle;refine ⟨?_,hp,hle⟩
 unfold eX
 rw [BP h0 hc,ai (by omega),Lr,ay hp]
theorem Rz {s:ByteArray} (h0:0<s.size) (hc:s[0]≠34):gI s.toList=0:=by
 have hl:=fT s h0;rw [bM] at hl;rw [hl]
 simp [gI,hc]
theorem RE {right:Bool} {s:ByteArray} (h0:0<s.size) (hc:mh s[0]=false) (hf:kE s[0]=false) (hq:0<gI s.toList):eX right s.toList=(2,gI s.toList):=by
 unfold eX
 rw [BP h0 hc,ai (by omega),Ls h0 hf,ai (by omega),ay hq]
theorem Om {right:Bool} {s:ByteArray} (h0:0<s.size) (hc:s[0]=59):eX right s.toList=(5,1):=by
 have hl:=fT s h0;rw [bM] at hl
 unfold eX
 rw [BP h0 (by rw [hc];decide),ai (by omega),Ls h0 (by rw [hc];decide),ai (by omega),Rz h0 (by rw [hc];decide),ai (by omega),ay (by rw [hl,hc];rfl)]
theorem Fb {right:Bool} {s:ByteArray} (h0:0<s.size) (hc:mh s[0]=false) (hf:kE s[0]=false) (hq:gI s.toList=0) (WH:s[0]≠59):eX right s.toList=(4,fV right s.toList):=by
 have hl:=fT s h0;rw [bM] at hl
 unfold eX
 rw [BP h0 hc,ai (by omega),Ls h0 hf,ai (by omega),hq,ai (by omega),ai (by rw [hl];simpa using WH)]
theorem RG (r:Nat) (w:World):Calls Tryz.prog 91 #[.int .i32 r] w fun e w'=>e=.returned (.bool (Dc r))∧w=w':=by
 obtain ⟨R,hR⟩:∃ R,Dc r=R:=⟨_,rfl⟩;have HR:=hid hR;rw [hR];clear hR
 go_enter Tryz.func91,Tryz.ntmps91
 go_wp2_with fail
 all_goals (go_ret;exact ⟨vD (by rw [← HR.out,gX];simp [Dc];omega),rfl⟩)
theorem On (r:Nat) (w:World):Calls Tryz.prog 114 #[.int .i32 r] w fun e w'=>e=.returned (.bool (Lp r))∧w=w':=by
 obtain ⟨R,hR⟩:∃ R,Lp r=R:=⟨_,rfl⟩;have HR:=hid hR;rw [hR];clear hR
 go_enter Tryz.func114,Tryz.ntmps114
 go_wp2_with fail
 all_goals (go_ret;exact ⟨vD (by rw [← HR.out,gX];simp [Lp];omega),rfl⟩)
theorem GK (r:Nat) (w:World):Calls Tryz.prog 95 #[.int .i32 r] w fun e w'=>e=.returned (.bool (GJ r))∧w=w':=by
 obtain ⟨R,hR⟩:∃ R,GJ r=R:=⟨_,rfl⟩;have HR:=hid hR;rw [hR];clear hR
 go_enter Tryz.func95,Tryz.ntmps95
 go_wp2_with fail
 all_goals (go_ret;exact ⟨vD (by rw [← HR.out,gX];simp [GJ];omega),rfl⟩)
theorem Jt (r:Nat) (w:World):Calls Tryz.prog 92 #[.int .i32 r] w fun e w'=>e=.returned (.bool (A8 r))∧w=w':=by
 obtain ⟨R,hR⟩:∃ R,A8 r=R:=⟨_,rfl⟩;have HR:=hid hR;rw [hR];clear hR
 go_enter Tryz.func92,Tryz.ntmps92
 go_wp2_with fail
 all_goals (go_ret;exact ⟨vD (by rw [← HR.out,gX];simp [A8];omega),rfl⟩)
def Df (r:Nat):Bool:=decide (r=32∨r=9∨r=13)
theorem Oo (r:Nat) (w:World):Calls Tryz.prog 88 #[.int .i32 r] w fun e w'=>e=.returned (.bool (Df r))∧w=w':=by
 obtain ⟨R,hR⟩:∃ R,Df r=R:=⟨_,rfl⟩;have HR:=hid hR;rw [hR];clear hR
 go_enter Tryz.func88,Tryz.ntmps88
 go_wp2_with fail
 all_goals (go_ret;exact ⟨vD (by rw [← HR.out,gX];simp [Df];omega),rfl⟩)
theorem Lt (r:Nat) (w:World):Calls Tryz.prog 93 #[.int .i32 r] w fun e w'=>e=.returned (.bool (Fa r))∧w=w':=by
 have c1:=Jt r w
 have c2:=fun X=>GK r X
 unfold Fa
 cases ha:A8 r
 ·rw [ha] at c1
  clear ha
  go_enter Tryz.func93,Tryz.ntmps93
  go_wp2_with fail
  refine c1.mono ?_;rintro e w2 ⟨rfl,rfl⟩
  go_wp2_with fail
  refine (c2 w).mono ?_;rintro e w2 ⟨rfl,rfl⟩
  go_wp2_with fail
  go_ret
  exact ⟨rfl,rfl⟩
 ·rw [ha] at c1
  clear ha
  go_enter Tryz.func93,Tryz.ntmps93
  go_wp2_with fail
  refine c1.mono ?_;rintro e w2 ⟨rfl,rfl⟩
  go_wp2_with fail
  go_ret
  exact ⟨rfl,rfl⟩
theorem RH (s:ByteArray) (w:World):Calls Tryz.prog 113 #[.string s] w fun e w'=>e=.returned (.bool (zJ s.toList))∧w=w':=by
 obtain ⟨R,hR⟩:∃ R,zJ s.toList=R:=⟨_,rfl⟩;have HR:=hid hR;rw [hR];clear hR
 go_enter Tryz.func113,Tryz.ntmps113
 go_wp2_with fail
 all_goals (go_ret;exact ⟨vD (by first|(exfalso;simp_all;done)|(rw [← HR.out];simp only [zJ, *];rfl)),rfl⟩)
theorem Oq (k f e':Int) (t:ByteArray) (w:World):Calls Tryz.prog 98 #[.agg #[.int .i64 k,.string t,.int .i64 f,.int .i64 e']] w fun e w'=>e=.returned (.bool (pR k t.toList))∧Below w.heap.size w w':=by
 obtain ⟨R,hR⟩:∃ R,pR k t.toList=R:=⟨_,rfl⟩;rw [hR]
 unfold pR at hR
 have HR:=hid hR;clear hR
 go_enter Tryz.func98,Tryz.ntmps98
 go_wp2_with fail
 all_goals (go_ret;refine ⟨vD (by first|(exfalso;simp_all;done)|(exfalso;omega)|(rw [← HR.out];simp [*];done)|(rw [← HR.out];simp_all;done)|(rw [← HR.out];simp;omega)),(aj _ _).alloc (ae _) _⟩)
theorem Lu (s:ByteArray) (w:World):Calls Tryz.prog 94 #[.string s] w fun e w'=>e=.returned (.int .i64 (if zJ s.toList then 3 else 0))∧w=w':=by
 have c1:=RH s w
 cases hb:zJ s.toList
 ·rw [hb] at c1
  clear hb
  go_enter Tryz.func94,Tryz.ntmps94
  go_wp2_with fail
  refine c1.mono ?_;rintro e w2 ⟨rfl,rfl⟩
  go_wp2_with fail
  go_ret
  exact ⟨rfl,rfl⟩
 ·rw [hb] at c1
  clear hb
  go_enter Tryz.func94,Tryz.ntmps94
  go_wp2_with fail
  refine c1.mono ?_;rintro e w2 ⟨rfl,rfl⟩
  go_wp2_with fail
  go_ret
  exact ⟨rfl,rfl⟩
theorem sZ {P:Nat→Bool} {q:UInt8→Bool} (hS:A7 P q) (k:Nat) (s:ByteArray) (w:World) (hs:s.size≤1099511627776)
  (c:∀ (r:Nat) (X:World),Calls Tryz.prog k #[.int .i32 r] X fun e w'=>e=.returned (.bool (P r))∧X=w')
  (he:∀ args X,(callFunc k args).run Tryz.prog X=.ok (.enter k args) X) :
  Calls Tryz.prog 90 #[.string s,.func (.func k) #[] #[]] w fun e w'=>e=.returned (.int .i64 (dB q s 0:Nat))∧Below w.heap.size w w':=by
 obtain ⟨R,hR⟩:∃ R,dB q s 0=R:=⟨_,rfl⟩;have HR:=hid hR;have HC:=hid c;rw [hR];clear hR c
 go_enter Tryz.func90,Tryz.ntmps90
 go_wp2_with fail
 go_loopw [] (fun w'=>∃ pos:Nat,w'=w.iter s pos∧Hid (dB q s pos=R)∧pos≤s.size) (fun w'=>s.size - w'.iterPos w.heap.size)
 case atStart=>exact ⟨0,rfl,HR,by omega⟩
 case round =>
  obtain ⟨pos,rfl,HO,hp⟩:=hrel
  by_cases hlt:pos<s.size
  ·have hnx:∀ ty,(Instr.next (.pointer (some ⟨w.heap.size,0,none⟩)) true ty).run Tryz.prog (w.iter s pos)=_:=fun ty=>run_next_any w s pos ty hlt
   have hw1:=width_pos s pos hlt;have hw2:=width_le s pos hlt;have H1:=hid (fun h=>UX hS (s:=s) hlt h);have H2:=hid (fun h=>Rq hS (s:=s) hlt h);have c1:=HC.out (Utf8.decode s pos).1 (w.iter s (pos+(Utf8.decode s pos).2))
   cases hb:P (Utf8.decode s pos).1
   ·have HE:=hid (H2.out hb)
    rw [hb] at c1;clear hb H1 H2
    go_wp2_with fail
    refine c1.mono ?_;rintro e w2 ⟨rfl,rfl⟩;clear c1
    go_wp2_with fail
    go_ret
    exact ⟨by rw [← HO.out,HE.out];rfl,(aj _ _).alloc (ae _) _⟩
   ·have HN:=hid ((H1.out hb).trans HO.out)
    rw [hb] at c1;clear hb H1 H2
    go_wp2_with fail
    refine c1.mono ?_;rintro e w2 ⟨rfl,rfl⟩;clear c1
    go_wp2_with fail
    go_roundw
    case rel=>exact ⟨pos+(Utf8.decode s pos).2,rfl,HN,by omega⟩
    case measure=>simp;omega
  ·have hnx:∀ ty,(Instr.next (.pointer (some ⟨w.heap.size,0,none⟩)) true ty).run Tryz.prog (w.iter s pos)=_:=fun ty=>run_next_end w s pos ty hlt
   have HE:=hid (vE q (s:=s) (i:=pos) (by omega))
   obtain rfl:pos=s.size:=by omega
   go_wp2_with fail
   go_ret
   exact ⟨by rw [← HO.out,HE.out];rfl,(aj _ _).alloc (ae _) _⟩
theorem U1 (s:ByteArray) (w:World) (hs:s.size≤1099511627776):Calls Tryz.prog 90 #[.string s,.func (.func 114) #[] #[]] w fun e w'=>e=.returned (.int .i64 (dB tF s 0:Nat))∧Below w.heap.size w w' :=
 sZ UZ _ s w hs (fun r X=>On r X) (fun _ _=>by kernel_rfl)
theorem RJ (s:ByteArray) (w:World) (hs:s.size≤1099511627776):Calls Tryz.prog 90 #[.string s,.func (.func 91) #[] #[]] w fun e w'=>e=.returned (.int .i64 (dB rf s 0:Nat))∧Below w.heap.size w w' :=
 sZ Rv _ s w hs (fun r X=>RG r X) (fun _ _=>by kernel_rfl)
theorem RL (s:ByteArray) (w:World) (hs:s.size≤1099511627776):Calls Tryz.prog 90 #[.string s,.func (.func 93) #[] #[]] w fun e w'=>e=.returned (.int .i64 (dB rR s 0:Nat))∧Below w.heap.size w w' :=
 sZ Ru _ s w hs (fun r X=>Lt r X) (fun _ _=>by kernel_rfl)
theorem U2 (s:ByteArray) (w:World) (hs:s.size≤1099511627776):Calls Tryz.prog 90 #[.string s,.func (.func 95) #[] #[]] w fun e w'=>e=.returned (.int .i64 (dB kE s 0:Nat))∧Below w.heap.size w w' :=
 sZ UY _ s w hs (fun r X=>GK r X) (fun _ _=>by kernel_rfl)
theorem Lv (s:ByteArray) (w:World) (hs:s.size≤1099511627776) (h0:0<s.size) (hc:s[0]=34):Calls Tryz.prog 96 #[.string s] w fun e w'=>e=.returned (.int .i64 (gI s.toList:Nat))∧Below w.heap.size w w':=by
 have c1:=U1 (s.extract 1 s.size) w (by rw [size_extract s 1 s.size (by omega) (ae _)];omega);obtain ⟨k,hk⟩:∃ k,dB tF (s.extract 1 s.size) 0=k:=⟨_,rfl⟩;rw [hk] at c1;obtain ⟨R,hR⟩:∃ R,gI s.toList=R:=⟨_,rfl⟩
 rcases Rw h0 hc hk with ⟨h1,h2⟩|⟨h1,h2⟩
 ·rw [hR] at h2 ⊢
  subst h2
  have hb:((1+(k:Int))==(s.size:Int))=true:=by simp;omega
  clear hk hR hc
  go_enter Tryz.func96,Tryz.ntmps96
  go_wp2_with fail
  refine c1.mono ?_;rintro e w2 ⟨rfl,hb2⟩;clear c1
  go_wp2_with fail
  go_ret
  exact ⟨rfl,hb2⟩
 ·have hb:((1+(k:Int))==(s.size:Int))=false:=by simp;omega
  rcases h2 with ⟨h2,h3⟩|⟨h2,h3⟩
  ·rw [h3] at hR
   subst hR;obtain ⟨z,hz⟩:∃ z,s[1+k]=z:=⟨_,rfl⟩
   have e34:((z.toNat:Int)==34)=true:=by rw [← hz,h2];rfl
   rw [h3];clear hk hc h2 h3
   go_enter Tryz.func96,Tryz.ntmps96
   go_wp2_with fail
   refine c1.mono ?_;rintro e w2 ⟨rfl,hb2⟩;clear c1
   go_wp2_with fail
   go_ret
   exact ⟨by go_num,hb2⟩
  ·rw [hR] at h3
   subst h3;obtain ⟨z,hz⟩:∃ z,s[1+k]=z:=⟨_,rfl⟩
   have e34:((z.toNat:Int)==34)=false:=by
    have h:=pW z 34;rw [di (by rw [← hz];exact h2)] at h
    exact h
   rw [hR];clear hk hc h2 hR
   go_enter Tryz.func96,Tryz.ntmps96
   go_wp2_with fail
   refine c1.mono ?_;rintro e w2 ⟨rfl,hb2⟩;clear c1
   go_wp2_with fail
   go_ret
   exact ⟨rfl,hb2⟩
structure uQ (B d:Nat) (w w':World):Prop where
 os:w'.os=w.os
 tape:w'.tape=w.tape
 output:w'.output=w.output
 size:w.heap.size≤w'.heap.size
 block:∀ k,k<B→k≠d→w'.heap[k]?=w.heap[k]?
theorem uQ.refl (B d:Nat) (w:World):uQ B d w w:=⟨rfl,rfl,rfl,ae _,fun _ _ _=>rfl⟩
theorem uQ.trans {B d:Nat} {a b c:World} (h:uQ B d a b) (k:uQ B d b c):uQ B d a c :=
 ⟨k.os.trans h.os,k.tape.trans h.tape,k.output.trans h.output,aJ h.size k.size,fun i hi hd=>(k.block i hi hd).trans (h.block i hi hd)⟩
theorem uQ.mono {B B' d:Nat} {w w':World} (h:uQ B d w w') (hB:B'≤B):uQ B' d w w':=⟨h.os,h.tape,h.output,h.size,fun k hk=>h.block k (aD hk hB)⟩
theorem uQ.of_below {B d:Nat} {w w':World} (h:Below B w w'):uQ B d w w':=⟨h.os,h.tape,h.output,h.size,fun k hk _=>h.block k hk⟩
theorem uQ.setCell {B d:Nat} {a w:World} (h:uQ B d a w) (i:Nat) (v:Value):uQ B d a (w.setCell ⟨d,i,none⟩ v):=by
 refine ⟨h.os,h.tape,h.output,by simpa using h.size,fun k hk hd=>?_⟩;rw [ak _ _ _ _ hd]
 exact h.block k hk hd
theorem uQ.alloc {B d:Nat} {a w:World} (h:uQ B d a w) (hB:B≤w.heap.size) (o:Obj):uQ B d a (w.alloc o) :=
 h.trans (uQ.of_below ((aj B w).alloc hB o))
theorem uQ.grown {B d:Nat} {a w w':World} {row:Option Nat} (h:uQ B d a w) (hg:w.grownBy w' row) (hB:B≤w.heap.size) (hr:∀ k,row=some k→B≤k∨k=d):uQ B d a w' :=
 h.trans ⟨hg.os,hg.tape,hg.output,hg.size,fun k hk hd=>hg.block k (aD hk hB) (fun e=>(hr k e.symm).elim (fun h1=>absurd h1 (by omega)) hd)⟩
theorem uQ.below {B d:Nat} {w w':World} (h:uQ B d w w') (hd:B≤d):Below B w w':=⟨h.os,h.tape,h.output,h.size,fun k hk=>h.block k hk (by omega)⟩
def qR (d:Nat) (s:ByteArray) (r:Bool) (i:Int) (v:Value) (w:World):Prop:=w.heap[d]?=some (.cells #[.string s,.bool r,.int .i64 i,v] 107 (0,0))
section
variable {d:Nat} {s:ByteArray} {r:Bool} {i:Int} {v:Value} {w w':World}
theorem qR.c0 (h:qR d s r i v w):w.cell? ⟨d,0,none⟩=some (.string s):=by unfold qR at h;simp [World.cell?,h]
theorem qR.c1 (h:qR d s r i v w):w.cell? ⟨d,1,none⟩=some (.bool r):=by unfold qR at h;simp [World.cell?,h]
theorem qR.c2 (h:qR d s r i v w):w.cell? ⟨d,2,none⟩=some (.int .i64 i):=by unfold qR at h;simp [World.cell?,h]
theorem qR.c3 (h:qR d s r i v w):w.cell? ⟨d,3,none⟩=some v:=by unfold qR at h;simp [World.cell?,h]
theorem qR.f2 (h:qR d s r i v w):w.frozen? ⟨d,2,none⟩=false:=by unfold qR at h;simp [World.frozen?,h]
theorem qR.f3 (h:qR d s r i v w):w.frozen? ⟨d,3,none⟩=false:=by unfold qR at h;simp [World.frozen?,h]
theorem qR.lt (h:qR d s r i v w):d<w.heap.size:=(af.1 h).1
theorem qR.set2 (h:qR d s r i v w) (x:Int):qR d s r x v (w.setCell ⟨d,2,none⟩ (.int .i64 x)):=az h _
theorem qR.Yf (h:qR d s r i v w) (x:Value):qR d s r i x (w.setCell ⟨d,3,none⟩ x):=az h _
theorem qR.same (h:qR d s r i v w) (hs:w'.heap[d]?=w.heap[d]?):qR d s r i v w':=hs.trans h
theorem qR.below (h:qR d s r i v w) (hb:Below w.heap.size w w'):qR d s r i v w':=h.same (hb.block d h.lt)
end
abbrev Row (d:Nat) (v:Value) (O:List aZ) (w:World):Prop:=w.ownsRow (d+1) 86 4 v O.length (gp O)
theorem Ot {w w':World} {B n size:Nat} {e:TypeId} {v:Value} {xs:List Value} (h:w.ownsRow B e size v n xs) (hs:∀ k,v.ownBlock=some k→w'.heap[k]?=w.heap[k]?):w'.ownsRow B e size v n xs:=by
 refine ⟨h.1,?_⟩
 rcases h.2 with h|⟨g,cap,cur,rfl,h2,h3,h4⟩
 ·exact .inl h
 ·exact .inr ⟨g,cap,cur,rfl,h2,(hs g rfl).trans h3,h4⟩
theorem Lx {d k:Nat} {v:Value} {O:List aZ} {w:World} (h:Row d v O w) (hk:O.length=k+1):∃ (g c:Nat) (t:aZ),v=.slice (some ⟨g,0,none⟩) (k+1) c∧sS O=pR t.w t.t∧w.cell? ⟨g,k*4,none⟩=some (.int .i64 t.w)∧w.cell? ⟨g,k*4+1,none⟩=some (.string ⟨t.t.toArray⟩)∧w.cell? ⟨g,k*4+2,none⟩=some (.int .i64 t.f)∧w.cell? ⟨g,k*4+3,none⟩=some (.int .i64 t.e):=by
 obtain ⟨g,c,hv,hkc,hgZ,hgw⟩:=lN h (by omega);subst hv;have Yg:=BI h rfl
 have RN:k<O.length:=by omega
 have hcl:=xM k Yg RN;simp only [bz] at hcl;refine ⟨g,c,O[k],by rw [hk],?_,hcl⟩
 unfold sS
 rw [List.getLast?_eq_getElem?,hk,gy,aC RN]
theorem xR (d:Nat) (s:ByteArray) (r:Bool) (i:Int) (v:Value) (O:List aZ) (w:World) (hB:qR d s r i v w) (hR:Row d v O w) (hf:O.length≤1099511627776) :
  Calls Tryz.prog 72 #[.pointer (some ⟨d,0,none⟩)] w fun e w'=>e=.returned (.bool (sS O))∧Below w.heap.size w w':=by
 have h3:=hB.c3
 by_cases h0:O.length=0
 ·obtain ⟨a,c,rfl⟩:=fD hR
  have WI:O=[]:=dw.1 h0
  have he:sS O=false:=by rw [WI];rfl
  rw [he];rw [h0] at h3;clear hB hR
  go_enter Tryz.func72,Tryz.ntmps72
  go_upto_region 1 with fail
  go_quiet (fail)
  go_wp2_with fail
  go_ret
  exact ⟨rfl,rq (aj _ _) _⟩
 ·obtain ⟨k,hk⟩:∃ k,O.length=k+1:=⟨O.length - 1,by omega⟩
  obtain ⟨g,c,t,rfl,he,c0,c1,c2,c3⟩:=Lx hR hk;obtain ⟨x,hx⟩:∃ x:ByteArray,(⟨t.t.toArray⟩:ByteArray)=x:=⟨_,rfl⟩
  have hxl:x.toList=t.t:=by rw [← hx,bu]
  rw [hx] at c1
  have cE:=fun X=>Oq t.w t.f t.e x X
  rw [hxl,← he] at cE;obtain ⟨_,hlt⟩:=hR.lt g rfl;have hd:=hB.lt;obtain ⟨n,hn⟩:∃ n,n=k+1:=⟨_,rfl⟩;rw [← hn] at h3
  have hcells:∀ X,Below w.heap.size w X→(X.cell? ⟨d,3,none⟩=some (.slice (some ⟨g,0,none⟩) n c)∧X.cell? ⟨g,k*4,none⟩=some (.int .i64 t.w)∧X.cell? ⟨g,k*4+1,none⟩=some (.string x)∧X.cell? ⟨g,k*4+2,none⟩=some (.int .i64 t.f)∧X.cell? ⟨g,k*4+3,none⟩=some (.int .i64 t.e)∧Below w.heap.size w X):=fun X hX =>
   ⟨(hX.cell (p:=⟨d,3,none⟩) hd).trans h3,(hX.cell (p:=⟨g,k*4,none⟩) hlt).trans c0,(hX.cell (p:=⟨g,k*4+1,none⟩) hlt).trans c1,(hX.cell (p:=⟨g,k*4+2,none⟩) hlt).trans c2,(hX.cell (p:=⟨g,k*4+3,none⟩) hlt).trans c3,hX⟩
  obtain ⟨b,hb⟩:∃ b,sS O=b:=⟨_,rfl⟩;rw [hb] at cE ⊢
  have CE2:∀ X,(X.cell? ⟨d,3,none⟩=some (.slice (some ⟨g,0,none⟩) n c)∧X.cell? ⟨g,k*4,none⟩=some (.int .i64 t.w)∧X.cell? ⟨g,k*4+1,none⟩=some (.string x)∧X.cell? ⟨g,k*4+2,none⟩=some (.int .i64 t.f)∧X.cell? ⟨g,k*4+3,none⟩=some (.int .i64 t.e)∧Below w.heap.size w X)→Calls Tryz.prog 98 #[.agg #[.int .i64 t.w,.string x,.int .i64 t.f,.int .i64 t.e]] X fun e w'=>e=.returned (.bool b)∧(w'.cell? ⟨d,3,none⟩=some (.slice (some ⟨g,0,none⟩) n c)∧w'.cell? ⟨g,k*4,none⟩=some (.int .i64 t.w)∧w'.cell? ⟨g,k*4+1,none⟩=some (.string x)∧w'.cell? ⟨g,k*4+2,none⟩=some (.int .i64 t.f)∧w'.cell? ⟨g,k*4+3,none⟩=some (.int .i64 t.e)∧Below w.heap.size w w'):=fun X hX =>
   (cE X).mono fun e w' ⟨h1,h2⟩=>⟨h1,hcells _ (hX.2.2.2.2.2.trans (h2.mono hX.2.2.2.2.2.size))⟩
  have hS0:=hcells w.drew (aj _ _).drew
  have hk6:k≤1099511627776:=by omega
  have RN:(k:Int)<(n:Int):=by omega
  have hk0:(0:Int)≤(k:Int):=by omega
  have hpos:0<n:=by omega
  have hi1:IntKind.i64.wrap ((n:Int) - 1)=(k:Int):=(bg _ (by omega)).trans (by omega);clear hcells cE hb hB hR hx hxl he hlt hd hk hf h0 h3 c0 c1 c2 c3 hn
  go_enter Tryz.func72,Tryz.ntmps72
  go_upto_region 1 with fail
  go_region_held3 (fun X=>X.cell? ⟨d,3,none⟩=some (.slice (some ⟨g,0,none⟩) n c)∧X.cell? ⟨g,k*4,none⟩=some (.int .i64 t.w)∧X.cell? ⟨g,k*4+1,none⟩=some (.string x)∧X.cell? ⟨g,k*4+2,none⟩=some (.int .i64 t.f)∧X.cell? ⟨g,k*4+3,none⟩=some (.int .i64 t.e)∧Below w.heap.size w X) (with_reducible (repeat (first|assumption))) (first
   | (go_at_call 98;(with_reducible refine (CE2 _ ?_).mono ?_);assumption;rintro e w3 ⟨rfl,Cy⟩))
  go_wp2_with fail
  go_ret
  exact ⟨rfl,Cy.2.2.2.2.2⟩
def xS (x:Int) (y:ByteArray) (f e:Nat):aZ:=⟨x,if y.toList=[10] then [] else y.toList,f,e⟩
def vQ (d:Nat) (s:ByteArray) (r:Bool) (i:Int) (O:List aZ) (w:World) (e:Ending) (w':World):Prop:=e=.returned (.tuple #[])∧∃ v,qR d s r i v w'∧Row d v O w'∧uQ (d+1) d w w'
theorem GL {d k:Nat} {v u:Value} {O:List aZ} {w:World} (h:Row d v O w):Row d v O (w.setCell ⟨d,k,none⟩ u) :=
 Ot h (fun j hj=>ak _ _ _ _ (by have:=(h.lt j hj).1;show j≠d;omega))
theorem RO {d:Nat} {s:ByteArray} {r:Bool} {i j:Int} {v v5:Value} {O:List aZ} {t:aZ} {w W w5:World} {o:Obj} (hB:qR d s r i v W) (hR:Row d v O W) (hl:Below w.heap.size w W) (hd:d<w.heap.size)
  (hv5:w5.ownsRow (d+1) 86 4 v5 (O.length+1) (gp O++gp [t])) (hg:(W.alloc o).grownBy w5 v.ownBlock) :
  qR d s r i v w5∧vQ d s r j (O++[t]) w (.returned (.tuple #[])) ((w5.setCell ⟨d,3,none⟩ v5).setCell ⟨d,2,none⟩ (.int .i64 j)):=by
 have TR:=hB.lt
 have hne:v.ownBlock≠some d:=fun e=>by have:=(hR.lt d e).1;omega
 have h5:qR d s r i v w5:=(hB.same (dx W o d (by omega))).same (hg.block d (by rw [aX];omega) (fun e=>hne e.symm))
 have hr:Row d v5 (O++[t]) w5:=by
  unfold Row
  rw [oN,aM]
  exact hv5
 have hm:uQ (d+1) d w w5:=by
  refine ⟨?_,?_,?_,?_,fun k hk hkd=>?_⟩
  ·exact hg.os.trans hl.os
  ·exact hg.tape.trans hl.tape
  ·exact hg.output.trans hl.output
  ·have h1:=hg.size;have h2:=hl.size;rw [aX] at h1;omega
  ·rw [hg.block k (by rw [aX];omega) (fun e=>by have:=(hR.lt k e.symm).1;omega),dx W o k (by omega)]
   exact hl.block k (by omega)
 exact ⟨h5,rfl,v5,(h5.Yf v5).set2 j,GL (GL hr),(hm.setCell 3 v5).setCell 2 _⟩
theorem fE (d:Nat) (s:ByteArray) (r:Bool) (i n:Nat) (x:Int) (v:Value) (O:List aZ) (w:World) (hB:qR d s r i v w) (hR:Row d v O w) (hf:O.length≤1099511627776) (hs:s.size≤1099511627776) (hin:i+n≤s.size) :
  Calls Tryz.prog 73 #[.pointer (some ⟨d,0,none⟩),.int .i64 x,.int .i64 n] w (vQ d s r ((i+n:Nat):Int) (O++[xS x (s.extract i (i+n)) i (i+n)]) w):=by
 obtain ⟨i0,hi0,hz0,hz1,hz2⟩:=fF ME;obtain ⟨va,vc,rfl⟩:=fD hR;have h0:=hB.c0;have h2:=hB.c2;have hd:=hB.lt;obtain ⟨y,hy⟩:∃ y,s.extract i (i+n)=y:=⟨_,rfl⟩;rw [hy];have HB:=hid hB;have HR:=hid hR;clear hB hR
 have aan:(0:Int)≤(i:Int):=by omega
 have hin1:(i:Int)≤(i:Int)+(n:Int):=by omega
 have hin2:(i:Int)+(n:Int)≤(s.size:Int):=by omega
 have aeL:IntKind.i64.wrap ((i:Int)+(n:Int))=(i:Int)+(n:Int):=bg _ (by omega);obtain ⟨Q,hQ⟩:∃ Q,vQ d s r ((i+n:Nat):Int) (O++[xS x y i (i+n)]) w=Q:=⟨_,rfl⟩;rw [hQ];have HQ:=hid hQ;clear hQ
 by_cases h10:y.toList=[10]
 focus
  have HT:Hid (xS x y i (i+n)=⟨x,[],i,(i:Int)+(n:Int)⟩):=hid (by unfold xS;rw [ay h10];congr 1)
  have hyb:(y.toList==[10])=true:=by rw [h10];rfl
  clear h10
  go_enter Tryz.func73,Tryz.ntmps73
  go_upto_region 0 with fail
  go_quiet (fail)
  obtain ⟨W,hW⟩:∃ V,w.drewN nq=V:=⟨_,rfl⟩;have BQ:Hid (Below w.heap.size w W):=hid (by rw [← hW];exact rq (aj _ _) _);have HB1:=hid (HB.out.below BQ.out);have HR1:Hid (Row d (.slice va O.length vc) O W):=hid (aV HR.out BQ.out);rw [hW];clear h0 h2 hW HB HR;have h0:=HB1.out.c0;have h3:=HB1.out.c3
  go_wp2_with (at_builtin;refine gN _ rfl _ _ 79 rfl (d+1) 86 i0 (.agg #[.int .i64 0,.string ⟨#[]⟩,.int .i64 0,.int .i64 0]) 4 40 Tryz.underlying79 hi0 hz0 hz1 hz2 rfl (by decide) _ _ _ rfl (HR1.out.alloc _) ⟨W.heap.size,0,none⟩ 1 1 (gp [⟨x,[],i,(i:Int)+(n:Int)⟩]) rfl rfl ?c1 (nD _) ?c3 ?c4 ?c5 ?_)
  case c1=>exact BJ _ _
  case c3=>unfold maxLen;omega
  case c4=>omega
  case c5=>rw [aX];have:=HB1.out.lt;omega
 rotate_left
 focus
  have HT:Hid (xS x y i (i+n)=⟨x,y.toList,i,(i:Int)+(n:Int)⟩):=hid (by unfold xS;rw [ai h10];congr 1)
  have hyb:(y.toList==[10])=false:=by simpa using h10
  clear h10
  go_enter Tryz.func73,Tryz.ntmps73
  go_upto_region 0 with fail
  go_quiet (fail)
  obtain ⟨W,hW⟩:∃ V,w.drewN nq=V:=⟨_,rfl⟩;have BQ:Hid (Below w.heap.size w W):=hid (by rw [← hW];exact rq (aj _ _) _);have HB1:=hid (HB.out.below BQ.out);have HR1:Hid (Row d (.slice va O.length vc) O W):=hid (aV HR.out BQ.out);rw [hW];clear h0 h2 hW HB HR;have h0:=HB1.out.c0;have h3:=HB1.out.c3
  go_wp2_with (at_builtin;refine gN _ rfl _ _ 79 rfl (d+1) 86 i0 (.agg #[.int .i64 0,.string ⟨#[]⟩,.int .i64 0,.int .i64 0]) 4 40 Tryz.underlying79 hi0 hz0 hz1 hz2 rfl (by decide) _ _ _ rfl (HR1.out.alloc _) ⟨W.heap.size,0,none⟩ 1 1 (gp [⟨x,y.toList,i,(i:Int)+(n:Int)⟩]) rfl rfl ?c1 (nD _) ?c3 ?c4 ?c5 ?_)
  case c1=>exact Cs _ _ _ _ _
  case c3=>unfold maxLen;omega
  case c4=>omega
  case c5=>rw [aX];have:=HB1.out.lt;omega
 rotate_left
 all_goals
  intro v5 w5 hv5 hg5 _;obtain ⟨v5a,v5c,rfl⟩:=fD hv5;have hte:=RO (j:=(i:Int)+(n:Int)) HB1.out HR1.out BQ.out hd hv5 hg5;have f3:=hte.1.f3;have f2:=(hte.1.Yf (.slice v5a (O.length+1) v5c)).f2;have HTE:=hid hte.2;have q3:=hte.1.c3;have q2:=(hte.1.Yf (.slice v5a (O.length+1) v5c)).c2;clear hv5 hg5 hte h0 h3
  go_wp2_with fail
  refine fZ (aI rfl _ _ _) rfl ?_;rw [← HQ.out,HT.out]
  exact HTE.out
theorem Ou (d:Nat) (s:ByteArray) (r:Bool) (i:Int) (v:Value) (w:World) (t:ByteArray) (hB:qR d s r i v w) (ht:t.size≤1099511627776) (h0:0<t.size) (h2:two t.toList=false) :
  Calls Tryz.prog 97 #[.pointer (some ⟨d,0,none⟩),.string t] w fun e w'=>e=.returned (.int .i64 (fV r t.toList:Nat))∧Below w.heap.size w w':=by
 have h1:=hB.c1
 have hm:fV r t.toList=if r then wid t.toList else 1:=by unfold fV;rw [ai (by rw [h2];simp)]
 have h7:=MZ t h0 (m:=(min 2 (t.size:Int)).toNat) (by split <;> omega) rfl;rw [h2] at h7;simp only [Bool.false_eq,Bool.or_eq_false_iff] at h7;obtain ⟨⟨⟨⟨⟨⟨t1,t2⟩,t3⟩,t4⟩,t5⟩,t6⟩,t7⟩:=h7;clear hB h2
 cases r
 ·replace hm:fV false t.toList=1:=hm
  rw [hm];clear hm
  go_enter Tryz.func97,Tryz.ntmps97
  go_wp2_with fail
  go_ret
  exact ⟨rfl,aj _ _⟩
 ·replace hm:fV true t.toList=wid t.toList:=hm
  rw [hm];have hwb:=xF (l:=t.toList) (by intro e;have:=dR t;rw [e] at this;simp at this;omega);rw [dR] at hwb;obtain ⟨R,hR⟩:∃ R,wid t.toList=R:=⟨_,rfl⟩;rw [hR] at hwb ⊢;have HR:Hid ((Utf8.decode t 0).2=R):=hid (by rw [← hR,Gg]);clear hm hR
  go_enter Tryz.func97,Tryz.ntmps97
  go_wp2_with fail
  clear t1 t2 t3 t4 t5 t6 t7
  go_loopw [] (fun w'=>∃ pos:Nat,w'=w.iter t pos∧(pos=0∨pos=R)) (fun w'=>t.size - w'.iterPos w.heap.size)
  case atStart=>exact ⟨0,rfl,.inl rfl⟩
  case round =>
   obtain ⟨pos,rfl,hp⟩:=hrel
   by_cases hlt:pos<t.size
   ·have hnx:∀ ty,(Instr.next (.pointer (some ⟨w.heap.size,0,none⟩)) true ty).run Tryz.prog (w.iter t pos)=_:=fun ty=>run_next_any w t pos ty hlt
    have hw1:=width_pos t pos hlt;have hw2:=width_le t pos hlt
    by_cases hp0:0<pos
    ·go_wp2_with fail
     go_ret
     exact ⟨by rw [show pos=R by omega];rfl,(aj _ _).alloc (ae _) _⟩
    ·have HN:Hid (pos+(Utf8.decode t pos).2=R):=hid (by
      have h:=HR.out
      have hp0:pos=0:=by omega
      rw [hp0];omega)
     clear hp
     go_wp2_with fail
     go_roundw
     case rel=>exact ⟨pos+(Utf8.decode t pos).2,rfl,.inr HN.out⟩
     case measure=>simp;omega
   ·have hnx:∀ ty,(Instr.next (.pointer (some ⟨w.heap.size,0,none⟩)) true ty).run Tryz.prog (w.iter t pos)=_:=fun ty=>run_next_end w t pos ty hlt
    have hRz:R=t.size:=by omega
    go_wp2_with fail
    go_ret
    exact ⟨by rw [hRz];rfl,(aj _ _).alloc (ae _) _⟩
theorem RP (d:Nat) (r:Bool) (w:World) (t:ByteArray) (h2:two t.toList=true) :
  Calls Tryz.prog 97 #[.pointer (some ⟨d,0,none⟩),.string t] w fun e w'=>e=.returned (.int .i64 (fV r t.toList:Nat))∧Below w.heap.size w w':=by
 have hm:fV r t.toList=2:=by unfold fV;rw [ay h2]
 have hz:2≤t.size:=by have:=F8 h2;rwa [dR] at this
 have h7:=MZ t (by omega) (m:=(min 2 (t.size:Int)).toNat) (by split <;> omega) rfl;rw [h2] at h7;rw [hm];clear h2 hm
 cases e0:((t.extract 0 (min 2 (t.size:Int)).toNat).toList==[58,61])
 rotate_left
 ·clear h7
  go_enter Tryz.func97,Tryz.ntmps97
  go_wp2_with fail
  go_ret
  exact ⟨rfl,aj _ _⟩
 rw [e0] at h7
 cases e1:((t.extract 0 (min 2 (t.size:Int)).toNat).toList==[61,61])
 rotate_left
 ·clear h7
  go_enter Tryz.func97,Tryz.ntmps97
  go_wp2_with fail
  go_ret
  exact ⟨rfl,aj _ _⟩
 rw [e1] at h7
 cases e2:((t.extract 0 (min 2 (t.size:Int)).toNat).toList==[33,61])
 rotate_left
 ·clear h7
  go_enter Tryz.func97,Tryz.ntmps97
  go_wp2_with fail
  go_ret
  exact ⟨rfl,aj _ _⟩
 rw [e2] at h7
 cases e3:((t.extract 0 (min 2 (t.size:Int)).toNat).toList==[60,61])
 rotate_left
 ·clear h7
  go_enter Tryz.func97,Tryz.ntmps97
  go_wp2_with fail
  go_ret
  exact ⟨rfl,aj _ _⟩
 rw [e3] at h7
 cases e4:((t.extract 0 (min 2 (t.size:Int)).toNat).toList==[62,61])
 rotate_left
 ·clear h7
  go_enter Tryz.func97,Tryz.ntmps97
  go_wp2_with fail
  go_ret
  exact ⟨rfl,aj _ _⟩
 rw [e4] at h7
 cases e5:((t.extract 0 (min 2 (t.size:Int)).toNat).toList==[38,38])
 rotate_left
 ·clear h7
  go_enter Tryz.func97,Tryz.ntmps97
  go_wp2_with fail
  go_ret
  exact ⟨rfl,aj _ _⟩
 rw [e5] at h7
 cases e6:((t.extract 0 (min 2 (t.size:Int)).toNat).toList==[124,124])
 rotate_left
 ·clear h7
  go_enter Tryz.func97,Tryz.ntmps97
  go_wp2_with fail
  go_ret
  exact ⟨rfl,aj _ _⟩
 rw [e6] at h7
 simp at h7
theorem Ju (d:Nat) (s:ByteArray) (r:Bool) (i:Int) (v:Value) (w:World) (t:ByteArray) (hB:qR d s r i v w) (ht:t.size≤1099511627776) (h0:0<t.size) :
  Calls Tryz.prog 97 #[.pointer (some ⟨d,0,none⟩),.string t] w fun e w'=>e=.returned (.int .i64 (fV r t.toList:Nat))∧Below w.heap.size w w':=by
 cases h2:two t.toList
 ·exact Ou d s r i v w t hB ht h0 h2
 ·exact RP d r w t h2
end S
end Go.Proofs.YtojoahlpgmnbnaaGreatDoor
namespace Go.Proofs
open Go.Shelf
def Tryz.GM:Go.Shelf.Ren:=⟨fun|316=>78|n=>n,fun|9=>9|3=>3|4=>4|37=>131|0=>0|127=>132|5=>5|n=>n,fun|n=>n⟩
theorem Tryz.RQ:Go.Proofs.LaysM.n316 Tryz.prog Tryz.GM:={
 mixed:=by kernel_rfl
 f316:=Tryz.func78.trans (congrArg some (by kernel_rfl))
 t0:=Tryz.underlying0
 a0:=Tryz.isAgg0
 z0:=Tryz.sizeOf0
 v0:=Tryz.zeroValue0
 t3:=Tryz.underlying3
 a3:=Tryz.isAgg3
 z3:=Tryz.sizeOf3
 v3:=Tryz.zeroValue3
 t4:=Tryz.underlying4
 a4:=Tryz.isAgg4
 z4:=Tryz.sizeOf4
 v4:=Tryz.zeroValue4
 t9:=Tryz.underlying9
 a9:=Tryz.isAgg9
 z9:=Tryz.sizeOf9
 v9:=Tryz.zeroValue9
 t37:=Tryz.underlying131
 a37:=Tryz.isAgg131
 z37:=Tryz.sizeOf131
 v37:=Tryz.zeroValue131
 t127:=Tryz.underlying132
 a127:=Tryz.isAgg132
 z127:=Tryz.sizeOf132
 v127:=Tryz.zeroValue132
 t5:=Tryz.underlying5
 a5:=Tryz.isAgg5
 z5:=Tryz.sizeOf5
 v5:=Tryz.zeroValue5
 i0:=by kernel_rfl
 i3:=by kernel_rfl
 i4:=by kernel_rfl
 i5:=by kernel_rfl
 i9:=by kernel_rfl
 i37:=by kernel_rfl
 i127:=by kernel_rfl }
open Go.RowKit in
theorem Tryz.stringslite_Clone (s:ByteArray) (w:World) (hlim:s.size≤281474976710656) :
  Calls Tryz.prog 78 #[.string s] w fun e w'=>e=.returned (.string s)∧Below w.heap.size w w':=Any.stringslite_Clone Tryz.RQ s w hlim
def Tryz.WJ:Go.Shelf.Ren:=⟨fun|206=>112|n=>n,fun|9=>9|4=>4|3=>3|n=>n,fun|n=>n⟩
def Tryz.LA:Go.Shelf.Ren:=⟨fun|99=>89|206=>112|n=>n,fun|9=>9|4=>4|3=>3|n=>n,fun|n=>n⟩
theorem Tryz.Yh:Go.Proofs.Lays.n99 Tryz.prog Tryz.LA:={
 mixed:=by kernel_rfl
 f99:=Tryz.func89.trans (congrArg some (by kernel_rfl))
 f206:=Tryz.func112.trans (congrArg some (by kernel_rfl))
 t3:=Tryz.underlying3
 a3:=Tryz.isAgg3
 z3:=Tryz.sizeOf3
 v3:=Tryz.zeroValue3
 t4:=Tryz.underlying4
 a4:=Tryz.isAgg4
 z4:=Tryz.sizeOf4
 v4:=Tryz.zeroValue4
 t9:=Tryz.underlying9
 a9:=Tryz.isAgg9
 z9:=Tryz.sizeOf9
 v9:=Tryz.zeroValue9 }
open Go.RowKit Go.Lib in
theorem Tryz.strings_HasPrefix (s p:ByteArray) (w:World) :
  Calls Tryz.prog 89 #[.string s,.string p] w fun e w'=>e=.returned (.bool (Lib.hasPrefix s.data.toList p.data.toList))∧w'=w:=Any.strings_HasPrefix Tryz.Yh s p w
end Go.Proofs
namespace Go.Proofs.YtojoahlpgmnbnaaGreatDoor
namespace S
open Go.RowKit
open Go.Lib hiding intOf
open U L
def Stepped (d:Nat) (s:ByteArray) (r:Bool) (i:Nat) (w:World) (e:Ending) (w':World):Prop:=∃ (j:Nat) (O:List aZ),i<j∧j≤s.size∧nS r s j O∧vQ d s r j O w e w'
theorem at_end {d:Nat} {s:ByteArray} {r:Bool} {i j:Int} {v:Value} {O:List aZ} {w W:World} (hB:qR d s r i v W) (hR:Row d v O W) (hl:Below w.heap.size w W) (hd:d<w.heap.size) :
  vQ d s r j O w (.returned (.tuple #[])) (W.setCell ⟨d,2,none⟩ (.int .i64 j)) :=
 ⟨rfl,v,hB.set2 j,GL hR,(uQ.of_below (⟨hl.os,hl.tape,hl.output,hl.size,fun k hk=>hl.block k (by omega)⟩:Below (d+1) w W)).setCell 2 _⟩
theorem vQ.after {d:Nat} {s:ByteArray} {r:Bool} {j:Int} {O:List aZ} {w W w':World} {e:Ending} (h:vQ d s r j O W e w') (hl:Below w.heap.size w W) (hd:d<w.heap.size):vQ d s r j O w e w':=by
 obtain ⟨h1,v,h2,h3,h4⟩:=h
 exact ⟨h1,v,h2,h3,(uQ.of_below (⟨hl.os,hl.tape,hl.output,hl.size,fun k hk=>hl.block k (by omega)⟩:Below (d+1) w W)).trans h4⟩
theorem RU {x:Int} {s:ByteArray} {i k:Nat} {c:UInt8} (h:i<s.size) (hk:1≤k) (hc:s[i]=c) (h10:c≠10):xS x (s.extract i (i+k)) i (i+k)=⟨x,(s.extract i (i+k)).toList,i,((i+k:Nat):Int)⟩:=by
 unfold xS
 rw [ai];rw [ext_list,fT s h,show i+k - i=(k - 1)+1 by omega,List.take_succ_cons,hc];intro e
 exact h10 (List.cons.inj e).1
theorem aa1 {s:ByteArray} {i:Nat} (h:i<s.size) (hc:s[i]=10):xS 5 (s.extract i (i+1)) i (i+1)=⟨5,[],i,((i+1:Nat):Int)⟩:=by
 unfold xS
 rw [ay];rw [ext_list,fT s h,show i+1 - i=0+1 by omega,List.take_succ_cons,hc];rfl
theorem Ov (c:UInt8):Df c.toNat=(blank c&&decide (c≠10)):=by
 rw [gX]
 have e:∀ d:UInt8,c.toNat=d.toNat ↔ c=d:=fun d=>⟨fun h=>UInt8.toNat_inj.1 h,fun h=>by rw [h]⟩
 have e32:=e 32;have e9:=e 9;have e13:=e 13;simp only [show (32:UInt8).toNat=32 from rfl,show (9:UInt8).toNat=9 from rfl,show (13:UInt8).toNat=13 from rfl] at e32 e9 e13
 unfold Df blank
 simp only [decide_eq_true_eq,e32,e9,e13,iq,Bool.or_eq_true,beq_iff_eq,ne_eq]
 constructor
 ·rintro (h|h|h) <;> (subst h;decide)
 ·rintro ⟨((h|h)|h)|h,h2⟩
  ·exact .inl h
  ·exact .inr (.inl h)
  ·exact .inr (.inr h)
  ·exact absurd h h2
theorem qT {d:Nat} {s t:ByteArray} {r:Bool} {i k:Nat} {x:Int} {c:UInt8} {O:List aZ} {w W:World} (hS:nS r s i O) (hlt:i<s.size) (hc:s[i]=c) (hb:blank c=false) (ht:s.extract i s.size=t) (hk:eH t.toList=0) (hw:eX r t.toList=(x,k)) (hl:Below w.heap.size w W) (hd:d<w.heap.size) :
  i+k≤s.size∧∀ w',vQ d s r ((i+k:Nat):Int) (O++[xS x (s.extract i (i+k)) i (i+k)]) W (.returned (.tuple #[])) w'→Stepped d s r i w (.returned (.tuple #[])) w':=by
 subst ht;obtain ⟨h1,h2,h3⟩:=zP hS hlt (by rw [hc];exact hb) hk hw;refine ⟨h1,fun w' h=>⟨i+k,_,by omega,h1,h3,?_⟩⟩;rw [RU hlt h2 hc (fun e=>by rw [e] at hb;cases hb)] at h
 exact h.after hl hd
theorem yS (d:Nat) (s:ByteArray) (r:Bool) (i:Nat) (v:Value) (O:List aZ) (w:World) (hB:qR d s r i v w) (hR:Row d v O w) (hS:nS r s i O) (hlt:i<s.size) (hs:s.size≤1099511627776) :
  Calls Tryz.prog 71 #[.pointer (some ⟨d,0,none⟩)] w (Stepped d s r i w):=by
 have h0:=hB.c0;have h2:=hB.c2;have hd:=hB.lt
 have hf:O.length≤1099511627776:=by have:=hS.few;omega
 obtain ⟨t,ht⟩:∃ t,s.extract i s.size=t:=⟨_,rfl⟩
 have htz:t.size=s.size - i:=by rw [← ht,size_extract s i s.size (by omega) (ae _)]
 have ht0:0<t.size:=by omega
 obtain ⟨c,hc⟩:∃ c,s[i]=c:=⟨_,rfl⟩
 have htc:t[0]=c:=by
  have h1:=zO s hlt;rw [ht,xK t ht0,hc] at h1
  exact aY h1
 have hc256:c.toNat<256:=gq c;have HB:=hid hB;have HR:=hid hR;have HS:=hid hS;have HC:=hid hc
 have hi0:(0:Int)≤(i:Int):=by omega
 have hi1:(i:Int)≤(s.size:Int):=by omega
 obtain ⟨Q,hQ⟩:∃ Q,Stepped d s r i w=Q:=⟨_,rfl⟩;rw [hQ];have HQ:=hid hQ;clear hB hR hS hc hQ
 go_enter Tryz.func71,Tryz.ntmps71
 go_upto_region 0 with fail
 go_quiet (fail)
 obtain ⟨W,hW⟩:∃ V,w.drewN nq=V:=⟨_,rfl⟩;have BQ:Hid (Below w.heap.size w W):=hid (by rw [← hW];exact rq (aj _ _) _);have HB1:=hid (HB.out.below BQ.out);have HR1:Hid (Row d v O W):=hid (aV HR.out BQ.out);rw [hW];clear h0 h2 hW HB HR;have cBl:=Oo c.toNat W;rw [Ov] at cBl
 go_wp2_with fail
 refine cBl.mono ?_;rintro e w2 ⟨rfl,rfl⟩;clear cBl
 by_cases hbl:blank c=true∧c≠10
 ·rw [show (blank c&&decide (c≠10))=true by simp [hbl.1,hbl.2]]
  have HE:Hid (Stepped d s r i w (.returned (.tuple #[])) (W.setCell ⟨d,2,none⟩ (.int .i64 ((i:Int)+1)))):=hid ⟨i+1,O,by omega,by omega,kC HS.out hlt (fun e=>hbl.2 (HC.out.symm.trans e.1)) (by rw [HC.out];exact hbl.1),at_end (j:=(i:Int)+1) HB1.out HR1.out BQ.out hd⟩;have h2:=HB1.out.c2;have f2:=HB1.out.f2;clear hbl ht htc
  go_wp2_with fail
  refine fZ (aI rfl _ _ _) rfl ?_;rw [← HQ.out]
  exact HE.out
 ·rw [show (blank c&&decide (c≠10))=false by
   rw [Bool.and_eq_false_iff]
   by_cases hb:blank c=true
   ·exact .inr (by simpa using fun h=>hbl ⟨hb,h⟩)
   ·exact .inl (by simpa using hb)]
  have HNB:=hid hbl
  have cH:Calls Tryz.prog 89 #[.string t,.string ⟨#[47,47]⟩] W fun e w'=>e=.returned (.bool (Lib.hasPrefix t.toList [47,47]))∧w'=W:=by
   rw [bu]
   exact Tryz.strings_HasPrefix t ⟨#[47,47]⟩ W
  clear hbl
  go_wp2_with fail
  refine cH.mono ?_;rintro e w2 ⟨rfl,rfl⟩;clear cH
  rcases U0 t with ⟨hp,hk,hw⟩|⟨hp,hk⟩
  ·rw [hp]
   obtain ⟨n,hn⟩:∃ n,eH t.toList=n:=⟨_,rfl⟩;rw [hn] at hk hw
   have hle:i+n≤s.size:=by have h:=ug t.toList;rw [hn,dR] at h;omega
   have Ac:Hid (blank c=false→nS r s (i+n) O):=hid (fun hb=>by
    have h:=Ct HS.out hlt (by rw [HC.out];exact hb) (by rw [ht,hn];exact hk)
    rwa [ht,hn] at h)
   have Kn:Hid (blank c=false):=hid (by
    cases hb:blank c
    ·rfl
    ·exfalso
     have h10:c=10:=Classical.byContradiction (fun h=>HNB.out ⟨hb,h⟩);have hl:=fT t ht0;rw [bM,htc,h10] at hl;rw [hl,MY] at hp
     match t.toList.drop (0+1),hp with
     | [],hp=>cases hp
     | x :: u,hp=>simp at hp)
   have HST:=hid (Ac.out Kn.out)
   have c1:∀ X,Below w2.heap.size w2 X→Calls Tryz.prog 90 #[.string t,.func (.func 91) #[] #[]] X fun e w'=>e=.returned (.int .i64 (n:Nat))∧(w'.cell? ⟨d,2,none⟩=some (.int .i64 i)∧w'.frozen? ⟨d,2,none⟩=false)∧Hid (Below w2.heap.size w2 w'):=fun X hX=>by
    have h:=RJ t X (by omega);rw [hw] at h
    refine h.mono fun e w' ⟨h1,h2⟩=>⟨h1,?_⟩
    have hb:=hX.trans (h2.mono hX.size)
    exact ⟨⟨(HB1.out.below hb).c2,(HB1.out.below hb).f2⟩,hid hb⟩
   have h2:=HB1.out.c2;have f2:=HB1.out.f2;have hwr:IntKind.i64.wrap ((i:Int)+(n:Int))=(i:Int)+(n:Int):=bg _ (by omega);clear hp hw hn ht htc Ac HNB
   go_upto_region 10 with fail
   go_region_with (first
    | (go_at_call 90;(with_reducible refine (c1 _ ?_).mono ?_);(exact ⟨rfl,rfl,rfl,ae _,fun _ _=>rfl⟩);rintro e w6 ⟨rfl,⟨q2,g2⟩,qP⟩))
   all_goals
    have HE:Hid (Stepped d s r i w (.returned (.tuple #[])) (w6.setCell ⟨d,2,none⟩ (.int .i64 ((i:Int)+(n:Int))))):=hid ⟨i+n,O,by omega,hle,HST.out,at_end (j:=(i:Int)+(n:Int)) (HB1.out.below qP.out) (aV HR1.out qP.out) (BQ.out.trans (qP.out.mono BQ.out.size)) hd⟩;clear q2 g2 h2 f2 c1
    go_wp2_with fail
    refine fZ (aI rfl _ _ _) rfl ?_;rw [← HQ.out]
    exact HE.out
  ·rw [hp]
   have HCM:=hid hk;clear hp hk
   by_cases h10:c=10
   ·have e10:((c.toNat:Int)==10)=true:=by rw [h10];rfl
    have cM:=xR d s r i v O w2 HB1.out HR1.out hf;have LB:=hid h10;clear h10
    go_wp2_with fail
    refine cM.mono ?_;rintro e w3 ⟨rfl,hb3⟩;have HB3:=hid (HB1.out.below hb3);have HR3:Hid (Row d v O w3):=hid (aV HR1.out hb3);have Jv:Hid (Below w.heap.size w w3):=hid (BQ.out.trans (hb3.mono BQ.out.size));clear cM hb3
    cases hen:sS O
    ·have HE:Hid (Stepped d s r i w (.returned (.tuple #[])) (w3.setCell ⟨d,2,none⟩ (.int .i64 ((i:Int)+1)))):=hid ⟨i+1,O,by omega,by omega,kC HS.out hlt (fun e=>by rw [hen] at e;cases e.2) (by rw [HC.out,LB.out];decide),at_end (j:=(i:Int)+1) HB3.out HR3.out Jv.out hd⟩
     have h2:=HB3.out.c2;have f2:=HB3.out.f2;clear hen ht htc
     go_wp2_with fail
     refine fZ (aI rfl _ _ _) rfl ?_;rw [← HQ.out]
     exact HE.out
    ·have cT:=fE d s r i 1 5 v O w3 HB3.out HR3.out hf hs (by omega)
     have HF:Hid (∀ w',vQ d s r ((i+1:Nat):Int) (O++[xS 5 (s.extract i (i+1)) i (i+1)]) w3 (.returned (.tuple #[])) w'→Stepped d s r i w (.returned (.tuple #[])) w'):=hid (fun w' h=>⟨i+1,_,by omega,by omega,MG HS.out hlt (HC.out.trans LB.out) hen,by
      rw [aa1 hlt (HC.out.trans LB.out)] at h
      exact h.after Jv.out hd⟩)
     clear hen ht htc
     go_wp2_with fail
     refine cT.mono ?_;rintro e w4 ⟨rfl,hT⟩;have HT:=hid (HF.out w4 ⟨rfl,hT⟩);clear cT hT
     go_wp2_with fail
     refine fZ (aI rfl _ _ _) rfl ?_;rw [← HQ.out]
     exact HT.out
   ·have e10:((c.toNat:Int)==10)=false:=by have h:=pW c 10;rw [di h10] at h;exact h
    have Kn:Hid (blank c=false):=hid (by
     cases hb:blank c
     ·rfl
     ·exact absurd ⟨hb,h10⟩ HNB.out)
    clear h10 HNB
    by_cases WH:c=59
    ·have e59:((c.toNat:Int)==59)=true:=by rw [WH];rfl
     obtain ⟨hik,hfin⟩:=qT HS.out hlt HC.out Kn.out ht HCM.out (Om (right:=r) ht0 (htc.trans WH)) BQ.out hd;have HF:=hid hfin;have cT:=fE d s r i 1 5 v O w2 HB1.out HR1.out hf hs hik;clear hfin WH ht htc
     go_wp2_with fail
     refine cT.mono ?_;rintro e w4 ⟨rfl,hT⟩;have HT:=hid (HF.out w4 ⟨rfl,hT⟩);clear cT hT
     go_wp2_with fail
     refine fZ (aI rfl _ _ _) rfl ?_;rw [← HQ.out]
     exact HT.out
    ·have e59:((c.toNat:Int)==59)=false:=by have h:=pW c 59;rw [di WH] at h;exact h
     have cL:=Jt c.toNat w2;rw [Rs] at cL
     go_wp2_with fail
     refine cL.mono ?_;rintro e w3 ⟨rfl,rfl⟩;clear cL
     cases hle:mh c
     focus
      have PT:=hid (htc ▸ hle:mh t[0]=false);have cF:=GK c.toNat w2;rw [Rt] at cF;clear hle
      go_wp2_with fail
      refine cF.mono ?_;rintro e w4 ⟨rfl,rfl⟩;clear cF
      cases hfi:kE c
      focus
       have HFI:=hid (htc ▸ hfi:kE t[0]=false);clear hfi
       have WK:gI t.toList=0→(i+fV r t.toList≤s.size∧∀ W w',Below w.heap.size w W→vQ d s r ((i+fV r t.toList:Nat):Int) (O++[xS 4 (s.extract i (i+fV r t.toList)) i (i+fV r t.toList)]) W (.returned (.tuple #[])) w'→Stepped d s r i w (.returned (.tuple #[])) w'):=fun hq =>
        ⟨(qT HS.out hlt HC.out Kn.out ht HCM.out (Fb ht0 PT.out HFI.out hq (by rw [htc];exact WH)) BQ.out hd).1,fun W w' hW h=>(qT HS.out hlt HC.out Kn.out ht HCM.out (Fb ht0 PT.out HFI.out hq (by rw [htc];exact WH)) hW hd).2 w' h⟩
       have Yi:=hid WK;clear WK
       by_cases xI:c=34
       focus
        have e34:((c.toNat:Int)==34)=true:=by rw [xI];rfl
        have cQ:=Lv t w2 (by omega) ht0 (htc.trans xI);obtain ⟨n,hn⟩:∃ n,gI t.toList=n:=⟨_,rfl⟩;rw [hn] at cQ;clear xI
        go_wp2_with fail
        refine cQ.mono ?_;rintro e w5 ⟨rfl,hb5⟩;have sN:=hid (HB1.out.below hb5);have uV:Hid (Row d v O w5):=hid (aV HR1.out hb5);have RY:Hid (Below w.heap.size w w5):=hid (BQ.out.trans (hb5.mono BQ.out.size));clear cQ hb5
        by_cases hn0:0<n
        focus
         obtain ⟨hik,hfin⟩:=qT HS.out hlt HC.out Kn.out ht HCM.out ((RE (right:=r) ht0 PT.out HFI.out (by rw [hn];exact hn0)).trans (by rw [hn])) RY.out hd;have HF:=hid hfin;have cT:=fE d s r i n 2 v O w5 sN.out uV.out hf hs hik;clear hfin ht htc hn
        rotate_left
        focus
         have hq0:gI t.toList=0:=by omega
         obtain ⟨hik,hfin⟩:=Yi.out hq0;have cM:=Ju d s r i v w5 t sN.out (by omega) ht0;obtain ⟨m,hm⟩:∃ m,fV r t.toList=m:=⟨_,rfl⟩;rw [hm] at cM hik;simp only [hm] at hfin;clear hq0 hn hm Yi
         go_wp2_with fail
         refine cM.mono ?_;rintro e w6 ⟨rfl,hb6⟩;have Ko:=sN.out.below hb6;have PU:Row d v O w6:=aV uV.out hb6;have hL6:Below w.heap.size w w6:=RY.out.trans (hb6.mono RY.out.size);have HF:=hid (fun w' h=>hfin w6 w' hL6 h);have cT:=fE d s r i m 4 v O w6 Ko PU hf hs hik;clear Ko PU hL6 cM hb6;clear hfin ht htc
        rotate_left
       rotate_left 2
       focus
        have e34:((c.toNat:Int)==34)=false:=by have h:=pW c 34;rw [di xI] at h;exact h
        obtain ⟨hik,hfin⟩:=Yi.out (Rz ht0 (by rw [htc];exact xI));have cM:=Ju d s r i v w2 t HB1.out (by omega) ht0;obtain ⟨m,hm⟩:∃ m,fV r t.toList=m:=⟨_,rfl⟩;rw [hm] at cM hik;simp only [hm] at hfin;clear hm Yi xI
        go_wp2_with fail
        refine cM.mono ?_;rintro e w6 ⟨rfl,hb6⟩;have Ko:=HB1.out.below hb6;have PU:Row d v O w6:=aV HR1.out hb6;have hL6:Below w.heap.size w w6:=BQ.out.trans (hb6.mono BQ.out.size);have HF:=hid (fun w' h=>hfin w6 w' hL6 h);have cT:=fE d s r i m 4 v O w6 Ko PU hf hs hik;clear Ko PU hL6 cM hb6;clear hfin ht htc
       rotate_left
      rotate_left 3
      focus
       have hwn:=Ry (right:=r) ht0 PT.out (htc ▸ hfi:kE t[0]=true);have cS:=U2 t w2 (by omega);obtain ⟨n,hn⟩:∃ n,dB kE t 0=n:=⟨_,rfl⟩;rw [hn] at cS hwn;obtain ⟨hwn,hn1,hn2⟩:=hwn;have HW:=hid hwn;clear hfi hn hwn
       go_wp2_with fail
       refine cS.mono ?_;rintro e w6 ⟨rfl,hb6⟩;have Ko:=HB1.out.below hb6;have PU:Row d v O w6:=aV HR1.out hb6;have hL6:Below w.heap.size w w6:=BQ.out.trans (hb6.mono BQ.out.size);obtain ⟨hik,hfin⟩:=qT HS.out hlt HC.out Kn.out ht HCM.out HW.out hL6 hd;have HF:=hid hfin;have cT:=fE d s r i n 1 v O w6 Ko PU hf hs hik;clear Ko PU hL6 cS hb6;clear hfin ht htc
      rotate_left
     rotate_left 4
     focus
      have hwn:=Ol (right:=r) ht0 (htc ▸ hle:mh t[0]=true);have cS:=RL t w2 (by omega);obtain ⟨n,hn⟩:∃ n,dB rR t 0=n:=⟨_,rfl⟩;rw [hn] at cS hwn;obtain ⟨hwn,hn1,hn2⟩:=hwn;obtain ⟨y,hy⟩:∃ y,t.extract 0 n=y:=⟨_,rfl⟩;rw [hy] at hwn;obtain ⟨x,hx⟩:∃ x:Int,(if zJ y.toList then 3 else 0)=x:=⟨_,rfl⟩
      have cO:=fun X=>Lu y X
      simp only [hx] at cO;rw [hx] at hwn;have HW:=hid hwn;clear hle hn hwn hx
      go_wp2_with fail
      refine cS.mono ?_;rintro e w6 ⟨rfl,hb6⟩;have qP:=hid (HB1.out.below hb6);have Ad:Hid (Row d v O w6):=hid (aV HR1.out hb6);have HL6:Hid (Below w.heap.size w w6):=hid (BQ.out.trans (hb6.mono BQ.out.size));obtain ⟨hik,hfin⟩:=qT HS.out hlt HC.out Kn.out ht HCM.out HW.out HL6.out hd;have HF:=hid hfin;have cT:=fE d s r i n x v O w6 qP.out Ad.out hf hs hik;clear cS hb6 hfin
      go_wp2_with fail
      refine (cO w6).mono ?_;rintro e w7 ⟨rfl,rfl⟩;clear cO hy ht htc
     rotate_left
     all_goals
      go_wp2_with fail
      refine cT.mono ?_;rintro e w8 ⟨rfl,hT⟩;have HT:=hid (HF.out w8 ⟨rfl,hT⟩);clear cT hT
      go_wp2_with fail
      refine fZ (aI rfl _ _ _) rfl ?_;rw [← HQ.out]
      exact HT.out
end S
namespace U
open Go.Shelf
def RZ:Go.Shelf.Ren:=⟨fun|196=>87|259=>111|n=>n,fun|9=>9|4=>4|3=>3|5=>5|12=>12|119=>136|0=>0|46=>140|139=>139|138=>138|53=>148|n=>n,fun|3=>0|4=>1|n=>n⟩
theorem lays:Lays.n196 Tryz.prog RZ:={
 mixed:=by kernel_rfl,
 f196:=Tryz.func87.trans (congrArg some (by kernel_rfl)),
 f259:=Tryz.func111.trans (congrArg some (by kernel_rfl)),
 t0:=Tryz.underlying0,
 a0:=Tryz.isAgg0,
 z0:=Tryz.sizeOf0,
 v0:=Tryz.zeroValue0,
 t3:=Tryz.underlying3,
 a3:=Tryz.isAgg3,
 z3:=Tryz.sizeOf3,
 v3:=Tryz.zeroValue3,
 t4:=Tryz.underlying4,
 a4:=Tryz.isAgg4,
 z4:=Tryz.sizeOf4,
 v4:=Tryz.zeroValue4,
 t5:=Tryz.underlying5,
 a5:=Tryz.isAgg5,
 z5:=Tryz.sizeOf5,
 v5:=Tryz.zeroValue5,
 t9:=Tryz.underlying9,
 a9:=Tryz.isAgg9,
 z9:=Tryz.sizeOf9,
 v9:=Tryz.zeroValue9,
 t12:=Tryz.underlying12,
 a12:=Tryz.isAgg12,
 z12:=Tryz.sizeOf12,
 v12:=Tryz.zeroValue12,
 t46:=Tryz.underlying140,
 a46:=Tryz.isAgg140,
 z46:=Tryz.sizeOf140,
 v46:=Tryz.zeroValue140,
 t53:=Tryz.underlying148,
 a53:=Tryz.isAgg148,
 z53:=Tryz.sizeOf148,
 v53:=Tryz.zeroValue148,
 t119:=Tryz.underlying136,
 a119:=Tryz.isAgg136,
 z119:=Tryz.sizeOf136,
 t138:=Tryz.underlying138,
 a138:=Tryz.isAgg138,
 z138:=Tryz.sizeOf138,
 v138:=Tryz.zeroValue138,
 t139:=Tryz.underlying139,
 a139:=Tryz.isAgg139,
 z139:=Tryz.sizeOf139,
 v139:=Tryz.zeroValue139,
 g3:=by kernel_rfl,
 g4:=by kernel_rfl }
end U
namespace U
open Go.RowKit
open Go.Lib hiding intOf
def qI (w:World):Prop:=Lib.Utf8Tabs 0 1 w
theorem qI.later {w w':World} (hT:qI w) (hb:Below w.heap.size w w'):qI w':=Utf8Tabs_below hT hb
theorem Fe (s:ByteArray) (w:World) (hs:s.size≤1099511627776) (hT:qI w) :
  Calls Tryz.prog 70 #[.string s] w fun e w'=>e=.returned (.bool (okB s))∧Below w.heap.size w w':=by
 have cV:Calls Tryz.prog 87 #[.string s] w (fun e w'=>e=.returned (.bool (Lib.validD s.data.toList))∧Below w.heap.size w w'):=Any.utf8_ValidString lays s w (by omega) hT;rw [P8 s] at cV;generalize okB s=V at cV ⊢
 go_enter Tryz.func70,Tryz.ntmps70
 go_wp2_with (go_at_call 87;refine cV.mono ?_;rintro e w' ⟨rfl,hb⟩)
 go_ret
 exact ⟨rfl,hb⟩
end U
namespace S
open Go.RowKit
open Go.Lib hiding intOf
open U L
def Ja (d:Nat) (w:World):Nat:=match w.cell? ⟨d,2,none⟩ with
 | some (.int _ k)=>k.toNat
 | _=>0
theorem qR.at {d:Nat} {s:ByteArray} {r:Bool} {i:Nat} {v:Value} {w:World} (h:qR d s r i v w):Ja d w=i:=by unfold Ja;rw [h.c2];rfl
theorem R7 (s:ByteArray):xS 5 (s.extract s.size (s.size+0)) s.size (s.size+0)=⟨5,[],s.size,s.size⟩:=by
 unfold xS
 have h:(s.extract s.size (s.size+0)).toList=[]:=by rw [ext_list,xH s (ae _),List.take_nil]
 rw [h];rfl
theorem Jw (s:ByteArray) (w:World) (hs:s.size≤1099511627776) (hT:qI w) :
  Calls Tryz.prog 48 #[.string s] w fun e w'=>∃ v,e=.returned v∧KO w.heap.size w' (fH (okB s) s.toList) v∧Below w.heap.size w w':=by
 have cR:=Fe s w hs hT;obtain ⟨r,hr⟩:∃ r,okB s=r:=⟨_,rfl⟩;have Jd:Hid (nS r s 0 []):=hid (xN r s (fun h=>by rw [hr];exact h));rw [hr] at cR ⊢;clear hr
 go_enter Tryz.func48,Tryz.ntmps48
 go_wp2_with fail
 refine cR.mono ?_;rintro e w1 ⟨rfl,hb1⟩;have HB1:=hid hb1;clear cR hb1
 go_wp2_with fail
 obtain ⟨d,hd⟩:∃ d,w1.heap.size=d:=⟨_,rfl⟩;obtain ⟨W0,hW0⟩:∃ W,w1.alloc (.cells #[.string s,.bool r,.int .i64 0,.slice none 0 0] 107)=W:=⟨_,rfl⟩;have HB0:Hid (qR d s r ((0:Nat):Int) (.slice none 0 0) W0):=hid (by rw [← hd,← hW0];exact aG w1 _);have HL0:Hid (Below d w1 W0):=hid (by rw [← hW0];exact (aj d w1).alloc (by omega) _)
 have hwd:w.heap.size≤d:=by have:=HB1.out.size;omega
 rw [hd,hW0];clear hW0 hd
 go_loopw [] (fun wr=>∃ (i:Nat) (O:List aZ) (v:Value),i≤s.size∧Hid (qR d s r i v wr)∧Hid (Row d v O wr)∧Hid (nS r s i O)∧Hid (uQ (d+1) d W0 wr)) (fun wr=>s.size - Ja d wr)
 case atStart=>exact ⟨0,[],_,aL _,HB0,hid (dD _ _ _ _),Jd,hid (uQ.refl _ _ _)⟩
 case round =>
  obtain ⟨i,O,v,hi,HB,HR,HS,HM⟩:=hrel;clear Jd HB0;have h2:=HB.out.c2;have hat:=HB.out.at
  by_cases hlt:i<s.size
  ·have cS:=yS d s r i v O wr HB.out HR.out HS.out hlt hs
   go_wp2_with fail
   refine cS.mono ?_;rintro e w2 ⟨j,O2,hij,hjs,hS2,rfl,v2,hB2,hR2,hM2⟩;have El:=hB2.at;have HB2:=hid hB2;have HR2:=hid hR2;have HS2:=hid hS2;have kG:=hid (HM.out.trans hM2);clear cS hB2 hR2 hS2 hM2 h2
   go_wp2_with fail
   go_roundw
   case rel=>exact ⟨j,O2,v2,hjs,HB2,HR2,HS2,kG⟩
   case measure=>rw [hat,El];omega
  ·obtain rfl:i=s.size:=by omega
   have cM:=xR d s r s.size v O wr HB.out HR.out (by have:=HS.out.few;omega);clear hat
   go_wp2_with fail
   refine cM.mono ?_;rintro e w2 ⟨rfl,hb2⟩;have HB2:=hid (HB.out.below hb2);have HR2:Hid (Row d v O w2):=hid (aV HR.out hb2);have hdw:=HB.out.lt;have kG:Hid (uQ (d+1) d W0 w2):=hid (HM.out.trans (uQ.of_below (⟨hb2.os,hb2.tape,hb2.output,hb2.size,fun k hk=>hb2.block k (by omega)⟩:Below (d+1) wr w2)))
   have hfin:∀ (w':World),uQ (d+1) d W0 w'→Below w.heap.size w w':=fun w' hm =>
    HB1.out.trans ((HL0.out.trans ((hm.mono (dZ d)).below (ae d))).mono hwd)
   have HF:=hid hfin;clear cM hb2 h2 hfin
   cases hen:sS O
   ·have HX:Hid (fH r s.toList=O):=hid (by have h:=HS.out.all;rw [nE,hen] at h;simpa using h)
    have h3:=HB2.out.c3;clear hen
    go_wp2_with fail
    go_ret
    exact ⟨_,rfl,by rw [HX.out];exact vI HR2.out rfl (by omega),HF.out _ kG.out⟩
   ·have HX:Hid (fH r s.toList=O++[⟨5,[],s.size,s.size⟩]):=hid (by have h:=HS.out.all;rw [nE,hen] at h;simpa using h)
    have cT:=fE d s r s.size 0 5 v O w2 HB2.out HR2.out (by have:=HS.out.few;omega) hs (by omega);rw [R7] at cT;clear hen
    go_wp2_with fail
    refine cT.mono ?_;rintro e w3 ⟨rfl,v3,hB3,Eh,uT⟩;have h3:=hB3.c3;have HR3:=hid Eh;have lq:=hid (kG.out.trans uT);clear cT hB3 Eh uT
    go_wp2_with fail
    go_ret
    exact ⟨_,rfl,by rw [HX.out];exact vI HR3.out rfl (by omega),HF.out _ lq.out⟩
end S
end Go.Proofs.YtojoahlpgmnbnaaGreatDoor
