/- What the claim needs of the texts KRest, KBetw, KSim, KSimE, KSimO, KSimS, KSimD. -/
import Derived.Test.YtojoahlpgmnbnaaGreatDoorUOOp
import Derived.Test.YtojoahlpgmnbnaaGreatDoorUO7
import Derived.Test.YtojoahlpgmnbnaaGreatDoorUO1
set_option maxRecDepth 20000
set_option maxHeartbeats 16000000
namespace Go.Proofs.YtojoahlpgmnbnaaGreatDoor
namespace K
open Go.RowKit
open Go.Lib hiding intOf
open U S T
section
variable {d:Nat} {L:List aZ} {size:Nat} {lv:Value} {s:St} {O:Nat→Prop}
theorem zU {k:By} {O O':List Open} (h:oI k O=some O'):∃ a r l p,O=a :: r∧a.kids=l++[p]∧O'=⟨k,[],a.kf,[p],0⟩ :: { a with kids:=l } :: r:=by
 cases O with
 | nil=>cases h
 | cons a r =>
  unfold oI at h
  dsimp only at h
  cases hk:a.kids.getLast? with
  | none=>rw [hk] at h;cases h
  | some p =>
   rw [hk] at h;obtain ⟨ys,h1⟩:=List.getLast?_eq_some_iff.1 hk;rw [h1,List.dropLast_concat] at h
   exact ⟨a,r,ys,p,rfl,h1,(aY h).symm⟩
theorem QV {W:World} (hM:Mem d L size lv s O W) (hs:Small L s) (hs1:s.opn.length<1000000) (hr:bD L size .result s≠.stuck) (ho:∃ a r,s.opn=a :: r):Calls Tryz.prog 121 #[ptr d] W (Does d L size lv s.i O W (bD L size .result s)):=by
 obtain ⟨a,r,ho⟩:=ho;have oh:=oh;simp only [bD] at hr ⊢
 cases h0:rY L size [123] s.i with
 | true =>
  rw [h0,ay rfl] at hr;rw [ay rfl]
  have hi:¬ s.i=0:=fun h=>hr (by rw [ay h])
  rw [ai hi,ho];dsimp only
  go_enter Tryz.func121,Tryz.ntmps121
  go_wp2_with fail
  refine (eU hM hs.i fJ hs.opn).mono ?_;rintro e v1 ⟨rfl,O1,hM1,hS1⟩;dsimp only
  go_wp2_with fail
  have c2:=iM hM1 hs.i [123];dsimp only at c2;rw [h0] at c2;refine c2.mono ?_;rintro e v2 ⟨rfl,hb2⟩;dsimp only;have hM2:=hM1.below hb2
  go_wp2_with fail
  refine (QE hM2 ⟨hs.i,hs.len,hs.todo,by show s.opn.length+1≤_;omega,fun q hq=>by
   rcases bA.1 hq with rfl|hq
   ·exact aL _
   ·exact hs.kids q hq⟩ ⟨fJ,[],(tok L size s.i).f,[],0⟩ a r (by show _ :: s.opn=_;rw [ho]) (by show 0<s.i;omega) (.mk fJ [] 0 0 []) rfl).mono ?_
  rintro e v3 ⟨rfl,O3,uT,Cy⟩;dsimp only
  (try go_wp2_with fail)
  first|go_end0|refine aB (aI rfl _ _ _) rfl ?_
  exact ⟨rfl,O3,uT,(hS1.trans (bN.of_below hb2)).trans Cy⟩
 | false =>
  rw [ai (by decide)]
  go_enter Tryz.func121,Tryz.ntmps121
  go_wp2_with fail
  refine (eU hM hs.i fJ hs.opn).mono ?_;rintro e v1 ⟨rfl,O1,hM1,hS1⟩;dsimp only
  go_wp2_with fail
  have c2:=iM hM1 hs.i [123];dsimp only at c2;rw [h0] at c2;refine c2.mono ?_;rintro e v2 ⟨rfl,hb2⟩;dsimp only;have hM2:=hM1.below hb2
  go_wp2_with fail
  refine (dJ hM2 [.m .typeOf,.m .fin] [.func (.func 136) #[ptr d] #[],.func (.func 123) #[ptr d] #[]] 2 rfl ⟨_,_,rfl,rfl,⟨_,_,rfl,rfl,rfl⟩⟩ (by decide) hs.todo).mono ?_;rintro e v11 ⟨rfl,O11,NU,aes⟩;dsimp only
  (try go_wp2_with fail)
  first|go_end0|refine aB (aI rfl _ _ _) rfl ?_
  exact ⟨rfl,O11,NU,((hS1.trans (bN.of_below hb2)).trans aes)⟩
theorem QW {W:World} (hM:Mem d L size lv s O W) (hs:Small L s) (hr:bD L size .behind s≠.stuck):Calls Tryz.prog 156 #[ptr d] W (Does d L size lv s.i O W (bD L size .behind s)):=by
 obtain ⟨tw,tf,te,y,hP,_,_,c1⟩:=jl hM hs.i;have oh:=oh
 have hfl:=fun X=>En (.int .i64 tw) (.string y) (.int .i64 tf) (.int .i64 te) X
 simp only [bD,hP] at hr ⊢;clear hP;obtain ⟨b0,h0⟩:∃ b,(y.toList==[46])=b:=⟨_,rfl⟩
 cases b0 with
 | true =>
  rw [ay h0] at hr;rw [ay h0]
  cases hw:oI jh s.opn with
  | none=>rw [hw] at hr;exact absurd rfl hr
  | some O' =>
   obtain ⟨a,r,l,p,ho,hk,rfl⟩:=zU hw;clear hr hw
   go_enter Tryz.func156,Tryz.ntmps156
   go_wp2_with fail
   refine c1.mono ?_;rintro e v0 ⟨rfl,hb0⟩;dsimp only;have hM0:=hM.below hb0
   go_wp2_with fail
   refine (K5 hM0 hs jh a r ho l p hk).mono ?_;rintro e v1 ⟨rfl,O1,hM1,hS1⟩;dsimp only
   go_wp2_with fail
   refine (ed hM1 [46]).mono ?_;rintro e v11 ⟨p11,q11,rfl,QX,hq11,vM⟩;dsimp only;have NU:=hM1.below vM
   go_wp2_with fail
   refine (dJ NU [.word [46],.m .name,.m .fin,.m .behind] [.func (.func 131) #[] #[ptr p11,ptr q11],.func (.func 119) #[ptr d] #[],.func (.func 123) #[ptr d] #[],.func (.func 156) #[ptr d] #[]] 4 rfl ⟨_,_,rfl,⟨p11,q11,rfl,QX,hq11⟩,⟨_,_,rfl,rfl,⟨_,_,rfl,rfl,⟨_,_,rfl,rfl,rfl⟩⟩⟩⟩ (by decide) hs.todo).mono ?_;rintro e v12 ⟨rfl,O12,XU,aet⟩;dsimp only
   (try go_wp2_with fail)
   first|go_end0|refine aB (aI rfl _ _ _) rfl ?_
   exact ⟨rfl,O12,XU,((((bN.of_below hb0).trans hS1).trans (bN.of_below vM)).trans aet)⟩
 | false =>
 rw [ai (show ¬ (y.toList==[46])=true by rw [h0];decide)] at hr;rw [ai (show ¬ (y.toList==[46])=true by rw [h0];decide)];obtain ⟨b1,h1⟩:∃ b,(y.toList==[91])=b:=⟨_,rfl⟩
 cases b1 with
 | true =>
  rw [ay h1] at hr;rw [ay h1]
  cases hw:oI lD s.opn with
  | none=>rw [hw] at hr;exact absurd rfl hr
  | some O' =>
   obtain ⟨a,r,l,p,ho,hk,rfl⟩:=zU hw;clear hr hw
   go_enter Tryz.func156,Tryz.ntmps156
   go_wp2_with fail
   refine c1.mono ?_;rintro e v0 ⟨rfl,hb0⟩;dsimp only;have hM0:=hM.below hb0
   go_wp2_with fail
   refine (K5 hM0 hs lD a r ho l p hk).mono ?_;rintro e v1 ⟨rfl,O1,hM1,hS1⟩;dsimp only
   go_wp2_with fail
   refine (ed hM1 [91]).mono ?_;rintro e v11 ⟨p11,q11,rfl,QX,hq11,vM⟩;dsimp only;have NU:=hM1.below vM
   go_wp2_with fail
   refine (ed NU [93]).mono ?_;rintro e v12 ⟨p12,q12,rfl,aeu,hq12,Bu⟩;dsimp only;replace QX:=QX.below Bu;replace hq11:=hq11.below Bu;have XU:=NU.below Bu
   go_wp2_with fail
   refine (dJ XU [.word [91],.m .expr,.word [93],.m .fin,.m .behind] [.func (.func 131) #[] #[ptr p11,ptr q11],.func (.func 146) #[ptr d] #[],.func (.func 131) #[] #[ptr p12,ptr q12],.func (.func 123) #[ptr d] #[],.func (.func 156) #[ptr d] #[]] 5 rfl ⟨_,_,rfl,⟨p11,q11,rfl,QX,hq11⟩,⟨_,_,rfl,rfl,⟨_,_,rfl,⟨p12,q12,rfl,aeu,hq12⟩,⟨_,_,rfl,rfl,⟨_,_,rfl,rfl,rfl⟩⟩⟩⟩⟩ (by decide) hs.todo).mono ?_;rintro e v13 ⟨rfl,O13,aev,UH⟩;dsimp only
   (try go_wp2_with fail)
   first|go_end0|refine aB (aI rfl _ _ _) rfl ?_
   exact ⟨rfl,O13,aev,(((((bN.of_below hb0).trans hS1).trans (bN.of_below vM)).trans (bN.of_below Bu)).trans UH)⟩
 | false =>
 rw [ai (show ¬ (y.toList==[91])=true by rw [h1];decide)];clear hr
 go_enter Tryz.func156,Tryz.ntmps156
 go_wp2_with fail
 refine c1.mono ?_;rintro e v0 ⟨rfl,hb0⟩;dsimp only;have hM0:=hM.below hb0
 go_wp2_with fail
 first|go_end0|refine aB (aI rfl _ _ _) rfl ?_
 exact ⟨rfl,O,hM0,.of_below hb0⟩
end
section
variable {d:Nat} {L:List aZ} {size:Nat} {lv:Value} {s:St} {O:Nat→Prop}
def K6 (d:Nat) (W:World):Nat:=match W.cell? ⟨d,3,none⟩ with
 | some (.slice _ n _)=>n
 | _=>0
theorem MR {W:World} (h:Mem d L size lv s O W):K6 d W=s.opn.length:=by
 obtain ⟨tv,ov,bs,vs,xs,h⟩:=h;obtain ⟨a,c,rfl⟩:=fD h.qx;have hb:=h.blk
 unfold K6
 simp [World.cell?,hb]
theorem NV {e σ:Int} {C O':List Open} (h:jO e σ C=some O'):∃ o r,C=o :: r ∧
  ((¬ (o.k=dI∧σ≤mH o.t)∧O'=o :: r)∨((o.k=dI∧σ≤mH o.t)∧∃ a r',r=a :: r'∧jO e σ (a.add (.mk o.k o.t o.f e o.kids) o.f :: r')=some O')):=by
 cases C with
 | nil=>cases h
 | cons o r =>
  refine ⟨o,r,rfl,?_⟩
  cases r with
  | nil =>
   by_cases hc:o.k=dI∧σ≤mH o.t
   ·simp [jO,settle,hc] at h
   ·simp only [jO,settle,hc,if_false] at h
    exact .inl ⟨hc,(aY h).symm⟩
  | cons a r' =>
   by_cases hc:o.k=dI∧σ≤mH o.t
   ·refine .inr ⟨hc,a,r',rfl,?_⟩
    unfold jO at h ⊢
    dsimp only at h ⊢;simp only [settle] at h;rw [ay hc] at h
    exact h
   ·unfold jO at h
    dsimp only at h;simp only [settle] at h;rw [ai hc] at h
    exact .inl ⟨hc,(aY h).symm⟩
theorem NW {W:World} (hM:Mem d L size lv s O W) (hs:Small L s) (hG:Et O W) (hk1:∀ o∈s.opn,o.kids.length<1000000) (hr:bD L size .between s≠.stuck):Calls Tryz.prog 152 #[ptr d] W (Does d L size lv s.i O W (bD L size .between s)):=by
 obtain ⟨tw,tf,te,y,_,_,hy,c1⟩:=jl hM hs.i;have oh:=oh
 have hfl:=fun X=>En (.int .i64 tw) (.string y) (.int .i64 tf) (.int .i64 te) X
 simp only [bD,q8] at hr ⊢
 have hi:¬ s.i=0:=fun h=>hr (by rw [ay h])
 rw [ai hi] at hr ⊢;rw [hy] at hr ⊢;obtain ⟨en,hen⟩:∃ e,(tok L size (s.i - 1)).e=e:=⟨_,rfl⟩;obtain ⟨σ,hσ⟩:∃ e,mH y.toList=e:=⟨_,rfl⟩;rw [hen,hσ] at hr ⊢
 cases hset:jO en σ s.opn with
 | none=>rw [hset] at hr;exact absurd rfl hr
 | some C =>
  rw [hset] at hr;dsimp only at hr ⊢;obtain ⟨R,hR⟩:∃ R,(if 0<σ then nY s.i ([.m .text,.m .pre,.m .between]++s.todo) (oI dI C) else IA.go ⟨s.i,s.todo,C⟩)=R:=⟨_,rfl⟩;rw [hR] at hr ⊢;have HR:=hid hR;have aew:=hid hset;have Hen:=hid hen;have HM:=hid hM;have HG:=hid hG;have QY:=hid hk1
  have cS:=fun X (h:dK X 2 0 oP)=>MQ y X h
  rw [hσ] at cS;clear hset hR hen hM hG hk1 hy hσ
  go_enter Tryz.func152,Tryz.ntmps152
  go_wp2_with fail
  refine c1.mono ?_;rintro e v0 ⟨rfl,hb0⟩;dsimp only;have HG0:=hid (HG.out.stay (.of_below hb0));have HM0:=hid (HM.out.below hb0);have Jd:=hid (bN.of_below (O:=O) hb0);clear hb0 c1
  go_wp2_with fail
  refine (cS _ HG0.out.2).mono ?_;rintro e v1 ⟨rfl,hb1⟩;dsimp only;have HG1:=hid (HG0.out.stay (.of_below hb1));have dP:=hid (HM0.out.below hb1);have Gt:=hid (Jd.out.trans (bN.of_below hb1));clear hb1 cS HG0 HM0 Jd
  go_wp2_with fail
  go_loopw [] (fun wr=>∃ (X:List Open) (O':Nat→Prop),Hid (jO en σ X=some C)∧Hid (Mem d L size lv { s with opn:=X } O' wr)∧Hid (bN O O' W wr)∧Hid (Et O' wr)∧Hid (X.length≤s.opn.length)∧Hid (∀ o r,X=o :: r→o.kids.length≤1000000∧∀ q∈r,q.kids.length<1000000)) (fun wr=>K6 d wr)
  case atStart=>exact ⟨s.opn,O,aew,dP,Gt,HG1,hid (ae _),hid (fun o r h=>⟨fu (QY.out o (by rw [h];exact bO)),fun q hq=>QY.out q (by rw [h];exact bf _ hq)⟩)⟩
  case round =>
   obtain ⟨X,O',HX,HMX,HSX,HGX,HL,HKX⟩:=hrel;have hlen:=hid (MR HMX.out);obtain ⟨o,r,rfl,hor⟩:=NV HX.out;obtain ⟨tv,ov,bs,us,xs,hXX⟩:=id HMX.out;obtain ⟨g,c,kv,ks,mF,qp,hT⟩:=nG hXX (o:=o) (r:=r) rfl
   have hrl:r.length≤1000000:=by have h1:=HL.out;have h2:=hs.opn;rw [aH] at h1;omega
   have cT:=fun (X:World) (hb:Below wr.heap.size wr X)=>nu hXX hT hrl hb
   have k0:=hT.cell 0 _ rfl;have k1:=hT.cell 1 _ rfl;rw [bS] at k0;obtain ⟨ko,hko,hkt⟩:=CG o.k;obtain ⟨tk,hto,XV⟩:=CG o.t;rw [hko] at k0;rw [hto] at k1;have hgl:=hT.lt;have HT:=hid hT;have XW:=hid hor;clear hor hXX hT hko hto dP Gt HG1
   by_cases NY:o.k=dI
   focus
    have h1:(ko.toList==[98,105,110,97,114,121])=true:=by rw [← hkt,NY];rfl
    have cS2:=fun X (h:dK X 2 0 oP)=>MQ tk X h
    rw [← XV] at cS2;obtain ⟨σ2,hσ2⟩:∃ e,mH o.t=e:=⟨_,rfl⟩;rw [hσ2] at cS2;have Ul:=hid hσ2;have HB:=hid NY;clear hkt XV hσ2 NY
    by_cases hge:σ≤σ2
    ·have hd1:decide (σ≤σ2)=true:=by simpa using hge
     go_wp2_with fail
     refine (cT wr (aj _ _)).mono ?_;rintro e w1 ⟨rfl,m1,rfl⟩;dsimp only;replace k0:(wr.drewN m1).cell? _=_:=k0;replace k1:(wr.drewN m1).cell? _=_:=k1;have PR:=hid (jX wr m1);have XX:=cT _ PR.out;generalize wr.drewN m1=W1 at k0 k1 PR XX ⊢
     go_wp2_with fail
     refine XX.mono ?_;rintro e w2 ⟨rfl,m2,rfl⟩;dsimp only;replace k1:(W1.drewN m2).cell? _=_:=k1;have Gu:Hid (Below wr.heap.size wr (W1.drewN m2)):=hid (PR.out.trans ⟨rfl,rfl,rfl,ae _,fun _ _=>rfl⟩);generalize W1.drewN m2=W2 at k1 Gu ⊢;have Ww:=hid (HGX.out.stay (.of_below Gu.out));clear k0 cT XX PR
     go_wp2_with fail
     refine (cS2 _ Ww.out.2).mono ?_;rintro e w3 ⟨rfl,hb3⟩;dsimp only;have Je:=hid (Gu.out.trans (hb3.mono Gu.out.size));clear hb3 k1 cS2;obtain ⟨_,a,r',rfl,aaS⟩:=XW.out.resolve_left (fun h=>h.1 ⟨HB.out,by rw [Ul.out];exact hge⟩)
     go_wp2_with fail
     refine (QE (HMX.out.below Je.out) ⟨hs.i,hs.len,hs.todo,aJ HL.out hs.opn,fun q hq=>by
      have h:=HKX.out o (a :: r') rfl
      rcases bA.1 hq with rfl|hq
      ·exact h.1
      ·exact fu (h.2 q hq)⟩ o a r' rfl (by show 0<s.i;omega) (.mk o.k o.t o.f en o.kids) (by
       show o.close (tok L size (s.i - 1)).e=_
       rw [Hen.out]
       unfold Open.close
       rw [ai (by rw [HB.out];decide),ai (by rw [HB.out];decide)])).mono ?_
     rintro e w4 ⟨rfl,O4,Kk,Ep⟩;dsimp only;have mJ:=hid Kk;have XY:=hid (((HSX.out.trans (bN.of_below Je.out)).trans Ep));have HG4:=hid ((HGX.out.stay (.of_below Je.out)).stay Ep);clear Kk Ep
     go_wp2_with fail
     go_roundw
     case rel=>exact ⟨a.add (.mk o.k o.t o.f en o.kids) o.f :: r',O4,hid aaS,mJ,XY,HG4,hid (by have:=HL.out;simp only [aH] at this ⊢;omega),hid (fun q r2 hq=>by
      have h:=(HKX.out o (a :: r') rfl).2
      cases hq
      exact ⟨by show (a.kids++[_]).length≤_;rw [aM];have:=h a bO;simp;omega,fun q hq=>h q (bf _ hq)⟩)⟩
     case measure=>rw [hlen.out,MR mJ.out];show r'.length+1<r'.length+1+1;omega
    have hd1:decide (σ≤σ2)=false:=by simpa using hge
    go_wp2_with fail
    refine (cT wr (aj _ _)).mono ?_;rintro e w1 ⟨rfl,m1,rfl⟩;dsimp only;replace k0:(wr.drewN m1).cell? _=_:=k0;replace k1:(wr.drewN m1).cell? _=_:=k1;have PR:=hid (jX wr m1);have XX:=cT _ PR.out;generalize wr.drewN m1=W1 at k0 k1 PR XX ⊢
    go_wp2_with fail
    refine XX.mono ?_;rintro e w2 ⟨rfl,m2,rfl⟩;dsimp only;replace k1:(W1.drewN m2).cell? _=_:=k1;have Gu:Hid (Below wr.heap.size wr (W1.drewN m2)):=hid (PR.out.trans ⟨rfl,rfl,rfl,ae _,fun _ _=>rfl⟩);generalize W1.drewN m2=W2 at k1 Gu ⊢;have Ww:=hid (HGX.out.stay (.of_below Gu.out));clear k0 cT XX PR
    go_wp2_with fail
    refine (cS2 _ Ww.out.2).mono ?_;rintro e w3 ⟨rfl,hb3⟩;dsimp only;have Je:=hid (Gu.out.trans (hb3.mono Gu.out.size));clear hb3 k1 cS2
    obtain ⟨_,rfl⟩:_∧C=o :: r:=by
     rcases XW.out with h|h
     ·exact ⟨h.1,h.2⟩
     ·exact absurd h.1.2 (by rw [Ul.out];omega)
   rotate_left
   focus
    have h1:(ko.toList==[98,105,110,97,114,121])=false:=by rw [← hkt];exact dU.2 NY
    obtain ⟨_,rfl⟩:_∧C=o :: r:=by
     rcases XW.out with h|h
     ·exact ⟨h.1,h.2⟩
     ·exact absurd h.1.1 NY
    clear hkt XV NY
    go_wp2_with fail
    refine (cT wr (aj _ _)).mono ?_;rintro e w1 ⟨rfl,m1,rfl⟩;dsimp only;replace k0:(wr.drewN m1).cell? _=_:=k0;have Je:=hid (jX wr m1);clear k1 cT;generalize wr.drewN m1=w3 at k0 Je ⊢
   rotate_left
   all_goals
    have mK:=hid (HMX.out.below Je.out);have HS5:=hid (HSX.out.trans (bN.of_below Je.out));have hRR:=HR.out
    by_cases hpos:0<σ
    ·rw [ay hpos] at hRR
     have hd2:decide (0<σ)=true:=by simpa using hpos
     cases hw:oI dI (o :: r) with
     | none=>rw [hw] at hRR;exact absurd hRR.symm hr
     | some O5 =>
      rw [hw] at hRR;obtain ⟨a,r2,l,p,ho,hk,rfl⟩:=zU hw
      cases ho
      obtain rfl:=hRR;clear hw hr HR
      go_wp2_with fail
      refine (K5 mK.out ⟨hs.i,hs.len,hs.todo,aJ HL.out hs.opn,fun q hq=>by
       have h:=HKX.out o r rfl
       rcases bA.1 hq with rfl|hq
       ·exact h.1
       ·exact fu (h.2 q hq)⟩ dI o r rfl l p hk).mono ?_
      rintro e v5 ⟨rfl,O5,hM6,hS6⟩;dsimp only
      go_wp2_with fail
      refine (dJ hM6 [.m .text,.m .pre,.m .between] [.func (.func 154) #[ptr d] #[],.func (.func 151) #[ptr d] #[],.func (.func 152) #[ptr d] #[]] 3 rfl ⟨_,_,rfl,rfl,⟨_,_,rfl,rfl,⟨_,_,rfl,rfl,rfl⟩⟩⟩ (by decide) hs.todo).mono ?_;rintro e v21 ⟨rfl,O21,Gr,aeC⟩;dsimp only
      (try go_wp2_with fail)
      first|go_end0|refine aB (aI rfl _ _ _) rfl ?_
      exact ⟨rfl,O21,Gr,((HS5.out.trans hS6).trans aeC)⟩
    ·rw [ai hpos] at hRR
     have hd2:decide (0<σ)=false:=by simpa using hpos
     obtain rfl:=hRR;clear hr HR
     go_wp2_with fail
     first|go_end0|refine aB (aI rfl _ _ _) rfl ?_
     exact ⟨rfl,O',mK.out,HS5.out⟩
end
end K
namespace K
open Go.Lib Go.Proofs.YtojoahlpgmnbnaaGreatDoor.U Go.Proofs.YtojoahlpgmnbnaaGreatDoor.S Go.Proofs.YtojoahlpgmnbnaaGreatDoor.T
section
variable (L:List aZ) (size:Nat)
def To (c:Int) (s s':St):Prop:=∃ n:Nat,(n:Int)+100*s.i≤100*s'.i+c∧Goes L size n s s'
def Fl (c:Int) (s:St) (j:Nat):Prop:=∃ n:Nat,(n:Int)+100*s.i≤100*j+c∧uM L size n s j
def tf (i:Nat):Int:=(tok L size i).f
end
section
variable {L:List aZ} {size:Nat}
theorem To.one {s s1:St} (h:fC L size s=.go s1):To L size (1+100*(s.i:Int) - 100*s1.i) s s1:=⟨1,by omega,.step h (.refl _ _)⟩
theorem To.trans {c d:Int} {a b e:St} (h:To L size c a b) (k:To L size d b e):To L size (c+d) a e:=by
 obtain ⟨n,h1,h2⟩:=h;obtain ⟨m,k1,k2⟩:=k
 exact ⟨n+m,by omega,h2.trans k2⟩
theorem To.fl {c d:Int} {a b:St} {j:Nat} (h:To L size c a b) (k:Fl L size d b j):Fl L size (c+d) a j:=by
 obtain ⟨n,h1,h2⟩:=h;obtain ⟨m,k1,k2⟩:=k
 exact ⟨n+m,by omega,h2.falls k2⟩
theorem To.mono {c d:Int} {a b:St} (h:To L size c a b) (hd:c≤d):To L size d a b:=by
 obtain ⟨n,h1,h2⟩:=h
 exact ⟨n,by omega,h2⟩
theorem Fl.mono {c d:Int} {a:St} {j:Nat} (h:Fl L size c a j) (hd:c≤d):Fl L size d a j:=by
 obtain ⟨n,h1,h2⟩:=h
 exact ⟨n,by omega,h2⟩
theorem Fl.now {s:St} (h:fC L size s=.wrong):Fl L size 0 s s.i:=⟨0,by omega,.now h 0⟩
theorem To.cons {c d:Int} {s s1 s2:St} (h:fC L size s=.go s1) (k:To L size c s1 s2) (hd:c+1+100*(s.i:Int) - 100*s1.i≤d):To L size d s s2:=((To.one h).trans k).mono (by omega)
theorem Fl.cons {c d:Int} {s s1:St} {j:Nat} (h:fC L size s=.go s1) (k:Fl L size c s1 j) (hd:c+1+100*(s.i:Int) - 100*s1.i≤d):Fl L size d s j:=((To.one h).fl k).mono (by omega)
theorem To.last {d:Int} {s s1:St} (h:fC L size s=.go s1) (hd:1+100*(s.i:Int) - 100*s1.i≤d):To L size d s s1:=(To.one h).mono hd
theorem To.stay {d:Int} {s:St} (hd:0≤d):To L size d s s:=⟨0,by omega,.refl _ _⟩
theorem bR {x:By} {i:Nat} (h:bG L x i=true):i<L.length:=by
 by_cases h1:i<L.length
 ·exact h1
 ·unfold bG at h;rw [dh (by omega)] at h;cases h
theorem gP {x:Int} {i:Nat} (h:bT L x i=true):i<L.length:=by
 by_cases h1:i<L.length
 ·exact h1
 ·unfold bT at h;rw [dh (by omega)] at h;cases h
theorem fP {i:Nat} (h:i<L.length):tf L size i=bQ L i:=by unfold tf bQ;rw [mI size h,aC h]
theorem Wx {j:Nat} (h0:0<j) (h:j≤L.length):(tok L size (j - 1)).e=jY L j:=by
 unfold jY
 rw [mI size (by omega),aC (by omega),ai (by omega)]
theorem yP {i:Nat} (h:i<L.length):(tok L size i).t=dz L i:=by unfold dz;rw [mI size h,aC h]
end
def Gv (kd:By):Bool:=!(kd==Ki)&&!(kd==eT)&&!(kd==fJ)
theorem K7 {kd:By} (h:Gv kd=true):¬ kd=Ki∧¬ (kd=eT∨kd=fJ):=by
 unfold Gv at h
 simp only [iq,Bool.not_eq_true',dU] at h
 exact ⟨h.1.1,fun e=>e.elim h.1.2 h.2⟩
section
variable {L:List aZ} (size:Nat) (hL:∀ t∈L,vB t)
include hL
theorem fK {x:By} (hx:x∈mi) {i:Nat} (R:List Stp) (O:List Open) (h:bG L x i=true):fC L size ⟨i,.word x :: R,O⟩=.go ⟨i+1,R,O⟩:=by
 show exec L size (.word x) ⟨i,R,O⟩=_
 simp only [exec];rw [gU size hL hx,h,ay rfl]
theorem gM {x:By} (hx:x∈mi) {i:Nat} (R:List Stp) (O:List Open) (h:bG L x i=false):fC L size ⟨i,.word x :: R,O⟩=.wrong:=by
 show exec L size (.word x) ⟨i,R,O⟩=_
 simp only [exec];rw [gU size hL hx,h];rfl
theorem uk {i:Nat} (R:List Stp) (o:Open) (O:List Open) (h:bT L 0 i=true):fC L size ⟨i,.m .name :: R,o :: O⟩=.go ⟨i+1,R,{ o with t:=dz L i } :: O⟩:=by
 show bD L size .name ⟨i,R,o :: O⟩=_
 simp only [bD];rw [vC size hL (by decide),h,ay rfl,yP (gP h)];rfl
theorem nL {i:Nat} (R:List Stp) (O:List Open) (h:bT L 0 i=false):fC L size ⟨i,.m .name :: R,O⟩=.wrong:=by
 show bD L size .name ⟨i,R,O⟩=_
 simp only [bD];rw [vC size hL (by decide),h];rfl
omit hL in
theorem iR {j:Nat} (R:List Stp) (kd t:By) (f kf:Int) (ks:List Pt) (a:Open) (O:List Open) (h1:Gv kd=true) (h0:0<j) (h:j≤L.length) :
  fC L size ⟨j,.m .fin :: R,⟨kd,t,f,ks,kf⟩ :: a :: O⟩=.go ⟨j,R,a.add (.mk kd t f (jY L j) ks) f :: O⟩:=by
 show Bq L size ⟨j,R,⟨kd,t,f,ks,kf⟩ :: a :: O⟩=_
 obtain ⟨h2,h3⟩:=K7 h1
 unfold Bq
 dsimp only;rw [ai (by omega),Wx h0 h];simp only [sF,Open.close,h2,h3,if_false];rfl
omit hL in
theorem BM {i:Nat} (R:List Stp) (o:Open) (O:List Open) (h:i<L.length):fC L size ⟨i,.m .text :: R,o :: O⟩=.go ⟨i+1,R,{ o with t:=dz L i } :: O⟩:=by
 show bD L size .text ⟨i,R,o :: O⟩=_
 simp only [bD];rw [ay h,yP h];rfl
def vN (L:List aZ) (size:Nat) (a b:Int) (x:List Stp) (i:Nat) (o:Out Pt):Prop:=∀ (T:Open) (O:List Open) (rest:List Stp),match o with
 | .ok p j=>j≤L.length∧i<j∧To L size (-a) ⟨i,x++rest,T :: O⟩ ⟨j,rest,T.add p (tf L size i) :: O⟩
 | .bad j=>Fl L size b ⟨i,x++rest,T :: O⟩ j
omit hL in
theorem Gw {a b:Int} {x:List Stp} {i j:Nat} {o:Out Pt} {p:Pt} (h:vN L size a b x i o) (ho:o=.ok p j) (T:Open) (O:List Open) (rest:List Stp) :
  j≤L.length∧i<j∧To L size (-a) ⟨i,x++rest,T :: O⟩ ⟨j,rest,T.add p (tf L size i) :: O⟩:=by subst ho;exact h T O rest
omit hL in
theorem CS {a b:Int} {x:List Stp} {i j:Nat} {o:Out Pt} (h:vN L size a b x i o) (ho:o=.bad j) (T:Open) (O:List Open) (rest:List Stp) :
  Fl L size b ⟨i,x++rest,T :: O⟩ j:=by subst ho;exact h T O rest
theorem UI {i:Nat} (R:List Stp) (O:List Open):fC L size ⟨i,.m .typeOf :: R,O⟩ =
  if bG L [42] i then .go ⟨i,.word [42] :: .m .typeOf :: .m .fin :: R,⟨vk,[],tf L size i,[],0⟩ :: O⟩
  else if bG L [91] i then .go ⟨i,.word [91] :: .word [93] :: .m .typeOf :: .m .fin :: R,⟨qw,[],tf L size i,[],0⟩ :: O⟩
  else .go ⟨i,.m .name :: .m .fin :: R,⟨yD,[],tf L size i,[],0⟩ :: O⟩:=by
 show bD L size .typeOf ⟨i,R,O⟩=_
 simp only [bD];rw [gU size hL (by decide),gU size hL (by decide)];rfl
theorem lh:∀ (n i:Nat),2*(L.length - i)+1≤n→i≤L.length→vN L size 60 10 [.m .typeOf] i (typed L n i)
 | 0,i,hn,_=>by omega
 | n+1,i,hn,hi=>by
  intro T O rest;have h0:=UI size hL (i:=i) rest (T :: O);simp only [typed]
  cases h1:bG L [42] i with
  | true =>
   have hlt:=bR h1;rw [h1,ay rfl] at h0;rw [ay rfl];have hw:=fK size hL (by decide) (.m .typeOf :: .m .fin :: rest) (⟨vk,[],tf L size i,[],0⟩ :: T :: O) h1
   cases h2:typed L n (i+1) with
   | ok p j =>
    obtain ⟨hj,hij,hr⟩:=Gw size (lh n (i+1) (by omega) hlt) h2 ⟨vk,[],tf L size i,[],0⟩ (T :: O) (.m .fin :: rest);refine ⟨hj,by omega,?_⟩;have hf:=iR size rest vk [] (tf L size i) (tf L size (i+1)) [p] T O (by decide) (by omega) hj;rw [fP hlt];rw [fP hlt] at h0 hw hr hf
    exact .cons h0 (.cons hw (hr.trans (.one hf)) (au _)) (by dsimp only;omega)
   | bad j =>
    have hr:=CS size (lh n (i+1) (by omega) hlt) h2 ⟨vk,[],tf L size i,[],0⟩ (T :: O) (.m .fin :: rest)
    exact .cons h0 (.cons hw hr (au _)) (by dsimp only;omega)
  | false =>
   rw [h1,ai (by decide)] at h0;rw [ai (by decide)]
   cases h3:bG L [91] i with
   | true =>
    have hlt:=bR h3;rw [h3,ay rfl] at h0;rw [ay rfl];have hw:=fK size hL (by decide) (.word [93] :: .m .typeOf :: .m .fin :: rest) (⟨qw,[],tf L size i,[],0⟩ :: T :: O) h3
    unfold bI
    cases h4:bG L [93] (i+1) with
    | true =>
     have Eu:=bR h4;have hw4:=fK size hL (by decide) (.m .typeOf :: .m .fin :: rest) (⟨qw,[],tf L size i,[],0⟩ :: T :: O) h4;rw [ay rfl];simp only [Out.next]
     cases h2:typed L n (i+1+1) with
     | ok p j =>
      obtain ⟨hj,hij,hr⟩:=Gw size (lh n (i+1+1) (by omega) Eu) h2 ⟨qw,[],tf L size i,[],0⟩ (T :: O) (.m .fin :: rest);refine ⟨hj,by omega,?_⟩;have hf:=iR size rest qw [] (tf L size i) (tf L size (i+1+1)) [p] T O (by decide) (by omega) hj;rw [fP hlt];rw [fP hlt] at h0 hw hw4 hr hf
      exact .cons h0 (.cons hw (.cons hw4 (hr.trans (.one hf)) (au _)) (au _)) (by dsimp only;omega)
     | bad j =>
      have hr:=CS size (lh n (i+1+1) (by omega) Eu) h2 ⟨qw,[],tf L size i,[],0⟩ (T :: O) (.m .fin :: rest)
      exact .cons h0 (.cons hw (.cons hw4 hr (au _)) (au _)) (by dsimp only;omega)
    | false =>
     rw [ai (by decide)]
     exact .cons h0 (.cons hw (.now (gM size hL (by decide) _ _ h4)) (au _)) (by dsimp only;omega)
   | false =>
    rw [h3,ai (by decide)] at h0;rw [ai (by decide)]
    unfold gK
    cases h4:bT L 0 i with
    | true =>
     have hlt:=gP h4;rw [ay rfl];have hw:=uk size hL (.m .fin :: rest) ⟨yD,[],tf L size i,[],0⟩ (T :: O) h4;have hf:=iR size rest yD (dz L i) (tf L size i) 0 [] T O (by decide) (dX i) hlt;refine ⟨hlt,eu _,?_⟩;rw [fP hlt] at h0 hw hf ⊢
     exact .cons h0 (.cons hw (.one hf) (au _)) (by dsimp only;omega)
    | false =>
     rw [ai (by decide)]
     exact .cons h0 (.now (nL size hL _ _ h4)) (by dsimp only;omega)
theorem wJ {i:Nat} {k:BH} {kd:By} {l:List Stp} (h:∀ s,bD L size k s=opened L size kd s l) (R:List Stp) (O:List Open):fC L size ⟨i,.m k :: R,O⟩=.go ⟨i,l++R,⟨kd,[],tf L size i,[],0⟩ :: O⟩:=by
 have _hL:=hL
 show bD L size k ⟨i,R,O⟩=_
 rw [h];rfl
theorem ES (k:BH) (kd:By) (h:∀ s,bD L size k s=opened L size kd s [.m .name,.m .typeOf,.m .fin]) (hk:Gv kd=true) (n i:Nat) (hn:2*(L.length - i)+1≤n) :
  vN L size 50 20 [.m k] i (param L n kd i):=by
 intro T O rest;have h0:=wJ size hL h (i:=i) rest (T :: O)
 unfold param gK
 cases h4:bT L 0 i with
 | true =>
  have hlt:=gP h4;rw [ay rfl];have hw:=uk size hL (.m .typeOf :: .m .fin :: rest) ⟨kd,[],tf L size i,[],0⟩ (T :: O) h4;simp only [Out.next]
  cases h2:typed L n (i+1) with
  | ok p j =>
   obtain ⟨hj,hij,hr⟩:=Gw size (lh size hL n (i+1) (by omega) hlt) h2 ⟨kd,dz L i,tf L size i,[],0⟩ (T :: O) (.m .fin :: rest);have hf:=iR size rest kd (dz L i) (tf L size i) (tf L size (i+1)) [p] T O hk (by omega) hj;refine ⟨hj,by omega,?_⟩;rw [fP hlt] at h0 hw hr hf ⊢
   exact .cons h0 (.cons hw (hr.trans (.one hf)) (au _)) (by dsimp only;omega)
  | bad j =>
   have hr:=CS size (lh size hL n (i+1) (by omega) hlt) h2 ⟨kd,dz L i,tf L size i,[],0⟩ (T :: O) (.m .fin :: rest)
   exact .cons h0 (.cons hw hr (au _)) (by dsimp only;omega)
 | false =>
  rw [ai (by decide)]
  exact .cons h0 (.now (nL size hL _ _ h4)) (by dsimp only;omega)
end
theorem K8 (L:List aZ) (i:Nat):0≤fI L i:=by
 unfold fI
 split
 ·unfold vg
  repeat' split
  all_goals decide
 ·exact au _
theorem K9 {L:List aZ} {i:Nat} (h:¬ i<L.length):fI L i=0:=by
 unfold fI;rw [dh (by omega)]
def Ctx (than:Int) (T:Open) (O:List Open):Prop:=(than=0∧T.k≠dI)∨(T.k=dI∧mH T.t=than∧O≠[])
theorem AR {than s e:Int} {T:Open} {O:List Open} (h:Ctx than T O) (hs:than<s∨T.k≠dI) (a:Pt) (f:Int):jO e s (T.add a f :: O)=some (T.add a f :: O):=by
 have hn:¬ ((T.add a f).k=dI∧s≤mH (T.add a f).t):=by
  rintro ⟨h1,h2⟩;have h1:T.k=dI:=h1;have h2:s≤mH T.t:=h2
  rcases hs with hs|hs
  ·rcases h with h|h
   ·exact h.2 h1
   ·rw [h.2.1] at h2;omega
  ·exact hs h1
 unfold jO
 cases O with
 | nil=>simp only [settle,hn,if_false]
 | cons b r=>simp only [settle,hn,if_false]
theorem Gx {s e:Int} {t:By} (f kf:Int) (ks:List Pt) (T:Open) (O:List Open) (h:s≤mH t) :
  jO e s (⟨dI,t,f,ks,kf⟩ :: T :: O)=jO e s (T.add (.mk dI t f e ks) f :: O):=by
 show settle e s ⟨dI,t,f,ks,kf⟩ (T :: O)=_
 simp only [settle,h,and_self,if_true];rfl
theorem zV (k:By) (T:Open) (O:List Open) (a:Pt) (f:Int):oI k (T.add a f :: O)=some (⟨k,[],f,[a],0⟩ :: { T with kf:=f } :: O):=by
 unfold oI Open.add
 simp
section
variable {L:List aZ} (size:Nat)
def te (L:List aZ) (size:Nat) (i:Nat):Int:=(tok L size (i - 1)).e
def Alike (L:List aZ) (size:Nat) (i:Nat) (C D:List Open):Prop:=jO (te L size i) (fI L i) C=jO (te L size i) (fI L i) D
def MS (L:List aZ) (size:Nat) (a b:Int) (than:Int) (i:Nat) (o:Out Pt):Prop:=∀ (T:Open) (O:List Open) (rest:List Stp),Ctx than T O→match o with
 | .ok p j=>j≤L.length∧i<j∧fI L j≤than∧∃ C,To L size (-a) ⟨i,.m .pre :: .m .between :: rest,T :: O⟩ ⟨j,.m .between :: rest,C⟩∧Alike L size j C (T.add p (tf L size i) :: O)
 | .bad j=>Fl L size b ⟨i,.m .pre :: .m .between :: rest,T :: O⟩ j
def QZ (L:List aZ) (size:Nat) (b:Int) (than f:Int) (a:Pt) (i:Nat) (o:Out Pt):Prop:=∀ (T:Open) (O:List Open) (rest:List Stp) (C:List Open),Ctx than T O→Alike L size i C (T.add a f :: O)→match o with
 | .ok p j=>j≤L.length∧i≤j∧fI L j≤than∧∃ C',To L size 0 ⟨i,.m .between :: rest,C⟩ ⟨j,.m .between :: rest,C'⟩∧Alike L size j C' (T.add p f :: O)
 | .bad j=>Fl L size b ⟨i,.m .between :: rest,C⟩ j
def Q0 (L:List aZ) (size:Nat) (b:Int) (f:Int) (a:Pt) (i:Nat) (o:Out Pt):Prop:=∀ (T:Open) (O:List Open) (rest:List Stp),match o with
 | .ok p j=>j≤L.length∧i≤j∧To L size 1 ⟨i,.m .behind :: rest,T.add a f :: O⟩ ⟨j,rest,T.add p f :: O⟩
 | .bad j=>Fl L size b ⟨i,.m .behind :: rest,T.add a f :: O⟩ j
def Wy (L:List aZ) (size:Nat) (b:Int) (i:Nat) (acc:List Pt) (o:Out (List Pt)):Prop:=∀ (o':Open) (O:List Open) (rest:List Stp),o'.kids=acc→o'.k≠dI→match o with
 | .ok l j=>j≤L.length∧i<j∧∃ kf,To L size 0 ⟨i,.m .expr :: .kK .expr :: .word [41] :: rest,o' :: O⟩ ⟨j,rest,{ o' with kids:=l,kf:=kf } :: O⟩
 | .bad j=>Fl L size b ⟨i,.m .expr :: .kK .expr :: .word [41] :: rest,o' :: O⟩ j
structure AU (L:List aZ) (size n:Nat):Prop where
 expr:∀ (than:Int) (i:Nat),8*(L.length - i)+3≤n→i≤L.length→0≤than→MS L size 70 30 than i (expr L n than i)
 exprs:∀ (than f:Int) (a:Pt) (i:Nat),8*(L.length - i)+1≤n→i≤L.length→0<i→0≤than→QZ L size 30 than f a i (exprs L n than f a i)
 pre:∀ (i:Nat),8*(L.length - i)+2≤n→i≤L.length→vN L size 70 20 [.m .pre] i (cu L n i)
 tails:∀ (f:Int) (a:Pt) (i:Nat),8*(L.length - i)+1≤n→i≤L.length→0<i→Q0 L size 20 f a i (tails L n f a i)
 operand:∀ (i:Nat),8*(L.length - i)+1≤n→i≤L.length→vN L size 80 10 [.m .operand] i (operand L n i)
 args:∀ (i:Nat) (acc:List Pt),8*(L.length - i)+4≤n→i≤L.length→Wy L size 50 i acc (args L n i acc)
theorem CU {i:Nat} {R:List Stp} {C O:List Open} (hL:∀ t∈L,vB t) (h0:0<i) (hs:jO (te L size i) (fI L i) C=some O) :
  fC L size ⟨i,.m .between :: R,C⟩=if 0<fI L i then nY i (.m .text :: .m .pre :: .m .between :: R) (oI dI O) else .go ⟨i,R,O⟩:=by
 show q8 L size ⟨i,R,C⟩=_
 unfold q8
 dsimp only;rw [ai (by omega),Gb size hL]
 unfold te at hs
 rw [hs];rfl
theorem NZ (hL:∀ t∈L,vB t) {n:Nat} (IH:AU L size n) (than f:Int) (a:Pt) (i:Nat) (hn:8*(L.length - i)+1≤n+1) (hi:i≤L.length) (h0:0<i) (ht:0≤than):QZ L size 30 than f a i (exprs L (n+1) than f a i):=by
 intro T O rest C hc hal;simp only [exprs]
 by_cases h:i<L.length∧than<fI L i
 ·rw [ay h]
  obtain ⟨h1,h2⟩:=h;have hset:jO (te L size i) (fI L i) C=some (T.add a f :: O):=Eq.trans hal (AR hc (.inl h2) a f);have hb:=CU (R:=rest) size hL h0 hset;rw [ay (by omega),zV] at hb;have hx:=BM (L:=L) size (.m .pre :: .m .between :: rest) ⟨dI,[],f,[a],0⟩ ({ T with kf:=f } :: O) h1;have hM:Ctx (fI L i) ⟨dI,dz L i,f,[a],0⟩ ({ T with kf:=f } :: O):=.inr ⟨rfl,by rw [← yP (size:=size) h1];exact Gb size hL i,by simp⟩;have he:=IH.expr (fI L i) (i+1) (by omega) h1 (by omega) ⟨dI,dz L i,f,[a],0⟩ ({ T with kf:=f } :: O) rest hM
  cases h3:expr L n (fI L i) (i+1) with
  | bad j =>
   rw [h3] at he
   exact .cons hb (.cons hx he (au _)) (by dsimp only;omega)
  | ok b j =>
   rw [h3] at he;obtain ⟨hj,hij,hsj,C2,hr,aeD⟩:=he;simp only [Out.next]
   have aeE:Alike L size j C2 (T.add (.mk dI (dz L i) f (jY L j) [a,b]) f :: O):=by
    refine Eq.trans aeD ?_;have hcl:=Gx (s:=fI L j) (e:=te L size j) (t:=dz L i) f (tf L size (i+1)) [a,b] { T with kf:=f } O (by rw [← yP (size:=size) h1,Gb size hL i];exact hsj);rw [show te L size j=jY L j from Wx (by omega) hj] at hcl ⊢
    exact hcl
   have hk:=IH.exprs than f (.mk dI (dz L i) f (jY L j) [a,b]) j (by omega) hj (by omega) ht T O rest C2 hc aeE
   cases h4:exprs L n than f (.mk dI (dz L i) f (jY L j) [a,b]) j with
   | bad k =>
    rw [h4] at hk
    exact .cons hb (.cons hx (hr.fl hk) (au _)) (by dsimp only;omega)
   | ok p k =>
    rw [h4] at hk;obtain ⟨q1,q2,q3,C3,q4,q5⟩:=hk
    exact ⟨q1,by omega,q3,C3,.cons hb (.cons hx (hr.trans q4) (au _)) (by dsimp only;omega),q5⟩
 ·rw [ai h]
  refine ⟨hi,ae _,?_,C,.stay (au _),hal⟩
  by_cases h1:i<L.length
  ·have:¬ than<fI L i:=fun e=>h ⟨h1,e⟩
   omega
  ·rw [K9 h1];exact ht
theorem Q3 {n:Nat} (IH:AU L size n) (than:Int) (i:Nat) (hn:8*(L.length - i)+3≤n+1) (hi:i≤L.length) (ht:0≤than):MS L size 70 30 than i (expr L (n+1) than i):=by
 intro T O rest hc;simp only [expr];have hp:=IH.pre i (by omega) hi T O (.m .between :: rest)
 cases h:cu L n i with
 | bad j=>rw [h] at hp;exact hp.mono (by omega)
 | ok a j =>
  rw [h] at hp;obtain ⟨hj,hij,hr⟩:=hp;simp only [Out.next];rw [fP (by omega)] at hr ⊢;have hk:=IH.exprs than (bQ L i) a j (by omega) hj (by omega) ht T O rest _ hc (Eq.refl (jO (te L size j) (fI L j) (T.add a (bQ L i) :: O)))
  cases h4:exprs L n than (bQ L i) a j with
  | bad k=>rw [h4] at hk;exact (hr.fl hk).mono (by omega)
  | ok p k =>
   rw [h4] at hk;obtain ⟨q1,q2,q3,C3,q4,q5⟩:=hk
   exact ⟨q1,by omega,q3,C3,(hr.trans q4).mono (by omega),q5⟩
theorem wK (hL:∀ t∈L,vB t) {n i:Nat} (h:MS L size 70 30 0 i (expr L n 0 i)) (T:Open) (O:List Open) (rest:List Stp) (hT:T.k≠dI):match expr L n 0 i with
  | .ok p j=>j≤L.length∧i<j∧To L size (-69) ⟨i,.m .pre :: .m .between :: rest,T :: O⟩ ⟨j,rest,T.add p (tf L size i) :: O⟩
  | .bad j=>Fl L size 30 ⟨i,.m .pre :: .m .between :: rest,T :: O⟩ j:=by
 have hk:=h T O rest (.inl ⟨rfl,hT⟩)
 cases h1:expr L n 0 i with
 | bad j=>rw [h1] at hk;exact hk
 | ok p j =>
  rw [h1] at hk;obtain ⟨q1,q2,q3,C,q4,q5⟩:=hk
  have hz:fI L j=0:=by have:=K8 L j;omega
  have hb:=CU (R:=rest) size hL (by omega) (Eq.trans q5 (AR (.inl ⟨rfl,hT⟩) (.inr hT) p (tf L size i)));rw [hz,ai (by decide)] at hb
  exact ⟨q1,q2,(q4.trans (.one hb)).mono (by dsimp only;omega)⟩
theorem rz (hL:∀ t∈L,vB t) {n i:Nat} (h:MS L size 70 30 0 i (expr L n 0 i)) (T:Open) (O:List Open) (rest:List Stp) (hT:T.k≠dI):match expr L n 0 i with
  | .ok p j=>j≤L.length∧i<j∧To L size (-68) ⟨i,.m .expr :: rest,T :: O⟩ ⟨j,rest,T.add p (tf L size i) :: O⟩
  | .bad j=>Fl L size 31 ⟨i,.m .expr :: rest,T :: O⟩ j:=by
 have hk:=wK size hL h T O rest hT;have h0:fC L size ⟨i,.m .expr :: rest,T :: O⟩=.go ⟨i,.m .pre :: .m .between :: rest,T :: O⟩:=rfl
 cases h1:expr L n 0 i with
 | bad j=>rw [h1] at hk;exact .cons h0 hk (by dsimp only;omega)
 | ok p j =>
  rw [h1] at hk;obtain ⟨q1,q2,q4⟩:=hk
  exact ⟨q1,q2,.cons h0 q4 (by dsimp only;omega)⟩
end
section
variable {L:List aZ} (size:Nat) (hL:∀ t∈L,vB t)
include hL
theorem Q4 {i:Nat} (R:List Stp) (O:List Open):fC L size ⟨i,.m .pre :: R,O⟩ =
  if bG L [38] i∨bG L [42] i∨bG L [45] i∨bG L [33] i then .go ⟨i,.m .text :: .m .pre :: .m .fin :: R,⟨jL,[],tf L size i,[],0⟩ :: O⟩ else .go ⟨i,.m .operand :: .m .behind :: R,O⟩:=by
 show bD L size .pre ⟨i,R,O⟩=_
 simp only [bD];rw [gU size hL (by decide),gU size hL (by decide),gU size hL (by decide),gU size hL (by decide)];rfl
theorem wL {n:Nat} (IH:AU L size n) (x:By) (i:Nat) (hn:8*(L.length - i)+2≤n+1) (h:bG L x i=true) (ho:bG L [38] i∨bG L [42] i∨bG L [45] i∨bG L [33] i) (hx:dz L i=x) :
  vN L size 70 20 [.m .pre] i ((cu L n (i+1)).next fun e j=>T.part L jL x (bQ L i) [e] j):=by
 intro T O rest;have hlt:=bR h;have h0:=Q4 size hL (i:=i) rest (T :: O);rw [ay ho] at h0;have h1:=BM (L:=L) size (.m .pre :: .m .fin :: rest) ⟨jL,[],tf L size i,[],0⟩ (T :: O) hlt;rw [hx] at h1;have hp:=IH.pre (i+1) (by omega) hlt ⟨jL,x,tf L size i,[],0⟩ (T :: O) (.m .fin :: rest)
 cases h2:cu L n (i+1) with
 | bad j=>rw [h2] at hp;exact .cons h0 (.cons h1 hp (au _)) (by dsimp only;omega)
 | ok p j =>
  rw [h2] at hp;obtain ⟨hj,hij,hr⟩:=hp;have hf:=iR size rest jL x (tf L size i) (tf L size (i+1)) [p] T O (by decide) (by omega) hj;refine ⟨hj,by omega,?_⟩;rw [fP hlt] at h0 h1 hr hf ⊢
  exact .cons h0 (.cons h1 (hr.trans (.one hf)) (au _)) (by dsimp only;omega)
omit hL in
theorem tq {x:By} {i:Nat} (h:bG L x i=true):dz L i=x:=by
 unfold bG at h;unfold dz
 split at h
 ·simp only [iq,beq_iff_eq] at h;rename_i t ht;exact h.1
 ·cases h
theorem UJ {n:Nat} (IH:AU L size n) (i:Nat) (hn:8*(L.length - i)+2≤n+1) (hi:i≤L.length):vN L size 70 20 [.m .pre] i (cu L (n+1) i):=by
 simp only [cu]
 by_cases h1:bG L [38] i=true
 ·rw [ay h1];exact wL size hL IH [38] i hn h1 (.inl h1) (tq h1)
 rw [ai h1]
 by_cases h2:bG L [42] i=true
 ·rw [ay h2];exact wL size hL IH [42] i hn h2 (.inr (.inl h2)) (tq h2)
 rw [ai h2]
 by_cases h3:bG L [45] i=true
 ·rw [ay h3];exact wL size hL IH [45] i hn h3 (.inr (.inr (.inl h3))) (tq h3)
 rw [ai h3]
 by_cases h4:bG L [33] i=true
 ·rw [ay h4];exact wL size hL IH [33] i hn h4 (.inr (.inr (.inr h4))) (tq h4)
 rw [ai h4];intro T O rest;have h0:=Q4 size hL (i:=i) rest (T :: O);rw [ai (by rintro (h|h|h|h);exact h1 h;exact h2 h;exact h3 h;exact h4 h)] at h0;have hp:=IH.operand i (by omega) hi T O (.m .behind :: rest)
 cases h5:operand L n i with
 | bad j=>rw [h5] at hp;exact .cons h0 hp (by dsimp only;omega)
 | ok a j =>
  rw [h5] at hp;obtain ⟨hj,hij,hr⟩:=hp;simp only [Out.next];rw [fP (by omega)] at hr ⊢;have hk:=IH.tails (bQ L i) a j (by omega) hj (by omega) T O rest
  cases h6:tails L n (bQ L i) a j with
  | bad k=>rw [h6] at hk;exact .cons h0 (hr.fl hk) (by dsimp only;omega)
  | ok p k =>
   rw [h6] at hk;obtain ⟨q1,q2,q3⟩:=hk
   exact ⟨q1,by omega,.cons h0 (hr.trans q3) (by dsimp only;omega)⟩
theorem N5 {i:Nat} (R:List Stp) (T:Open) (O:List Open) (a:Pt) (f:Int):fC L size ⟨i,.m .behind :: R,T.add a f :: O⟩ =
  if bG L [46] i then .go ⟨i,.word [46] :: .m .name :: .m .fin :: .m .behind :: R,⟨jh,[],f,[a],0⟩ :: { T with kf:=f } :: O⟩
  else if bG L [91] i then .go ⟨i,.word [91] :: .m .expr :: .word [93] :: .m .fin :: .m .behind :: R,⟨lD,[],f,[a],0⟩ :: { T with kf:=f } :: O⟩
  else .go ⟨i,R,T.add a f :: O⟩:=by
 show bD L size .behind ⟨i,R,T.add a f :: O⟩=_
 simp only [bD];rw [gU size hL (by decide),gU size hL (by decide),zV,zV];rfl
theorem N6 {n:Nat} (IH:AU L size n) (f:Int) (a:Pt) (i:Nat) (hn:8*(L.length - i)+1≤n+1) (hi:i≤L.length):Q0 L size 20 f a i (tails L (n+1) f a i):=by
 intro T O rest;have h0:=N5 size hL (i:=i) rest T O a f;simp only [tails]
 cases h1:bG L [46] i with
 | true =>
  have hlt:=bR h1;rw [h1,ay rfl] at h0;rw [ay rfl];have hw:=fK size hL (by decide) (.m .name :: .m .fin :: .m .behind :: rest) (⟨jh,[],f,[a],0⟩ :: { T with kf:=f } :: O) h1
  unfold gK
  cases h2:bT L 0 (i+1) with
  | false =>
   rw [ai (by decide)]
   exact .cons h0 (.cons hw (.now (nL size hL _ _ h2)) (au _)) (by dsimp only;omega)
  | true =>
   have hlt2:=gP h2;rw [ay rfl];simp only [Out.next];have hm:=uk size hL (.m .fin :: .m .behind :: rest) ⟨jh,[],f,[a],0⟩ ({ T with kf:=f } :: O) h2;have hf:=iR size (.m .behind :: rest) jh (dz L (i+1)) f 0 [a] { T with kf:=f } O (by decide) (dX (i+1)) hlt2;have hk:=IH.tails f (.mk jh (dz L (i+1)) f (jY L (i+1+1)) [a]) (i+1+1) (by omega) hlt2 (by omega) T O rest
   cases h6:tails L n f (.mk jh (dz L (i+1)) f (jY L (i+1+1)) [a]) (i+1+1) with
   | bad k=>rw [h6] at hk;exact .cons h0 (.cons hw (.cons hm (.cons hf hk (au _)) (au _)) (au _)) (by dsimp only;omega)
   | ok p k =>
    rw [h6] at hk;obtain ⟨q1,q2,q3⟩:=hk
    exact ⟨q1,by omega,.cons h0 (.cons hw (.cons hm (.cons hf q3 (au _)) (au _)) (au _)) (by dsimp only;omega)⟩
 | false =>
  rw [h1,ai (by decide)] at h0;rw [ai (by decide)]
  cases h3:bG L [91] i with
  | false =>
   rw [h3,ai (by decide)] at h0;rw [ai (by decide)]
   exact ⟨hi,ae _,.last h0 (by dsimp only;omega)⟩
  | true =>
   have hlt:=bR h3;rw [h3,ay rfl] at h0;rw [ay rfl];have hw:=fK size hL (by decide) (.m .expr :: .word [93] :: .m .fin :: .m .behind :: rest) (⟨lD,[],f,[a],0⟩ :: { T with kf:=f } :: O) h3;have he:=rz size hL (IH.expr 0 (i+1) (by omega) hlt (au _)) ⟨lD,[],f,[a],0⟩ ({ T with kf:=f } :: O) (.word [93] :: .m .fin :: .m .behind :: rest) (show ¬ lD=dI by decide)
   cases h4:expr L n 0 (i+1) with
   | bad j=>rw [h4] at he;exact .cons h0 (.cons hw he (au _)) (by dsimp only;omega)
   | ok e j =>
    rw [h4] at he;obtain ⟨hj,hij,hr⟩:=he;simp only [Out.next]
    unfold bI
    cases h5:bG L [93] j with
    | false =>
     rw [ai (by decide)]
     exact .cons h0 (.cons hw (hr.fl (.now (gM size hL (by decide) _ _ h5))) (au _)) (by dsimp only;omega)
    | true =>
     have Bt:=bR h5;rw [ay rfl];simp only;have jA:=fK size hL (by decide) (.m .fin :: .m .behind :: rest) (⟨lD,[],f,[a,e],tf L size (i+1)⟩ :: { T with kf:=f } :: O) h5;have hf:=iR size (.m .behind :: rest) lD [] f (tf L size (i+1)) [a,e] { T with kf:=f } O (by decide) (dX j) Bt;have hk:=IH.tails f (.mk lD [] f (jY L (j+1)) [a,e]) (j+1) (by omega) Bt (by omega) T O rest
     cases h6:tails L n f (.mk lD [] f (jY L (j+1)) [a,e]) (j+1) with
     | bad k=>rw [h6] at hk;exact .cons h0 (.cons hw (hr.fl (.cons jA (.cons hf hk (au _)) (au _))) (au _)) (by dsimp only;omega)
     | ok p k =>
      rw [h6] at hk;obtain ⟨q1,q2,q3⟩:=hk
      exact ⟨q1,by omega,.cons h0 (.cons hw (hr.trans (.cons jA (.cons hf q3 (au _)) (au _))) (au _)) (by dsimp only;omega)⟩
theorem Jf {i:Nat} (k:BH) (R:List Stp) (O:List Open):fC L size ⟨i,.kK k :: R,O⟩=if bG L [44] i then .go ⟨i,.word [44] :: .m k :: .kK k :: R,O⟩ else .go ⟨i,R,O⟩:=by
 show exec L size (.kK k) ⟨i,R,O⟩=_
 simp only [exec];rw [gU size hL (by decide)];rfl
theorem ET {i:Nat} (k:BH) (R:List Stp) (O:List Open):fC L size ⟨i,.jE k :: R,O⟩=if bG L [41] i then .go ⟨i,R,O⟩ else .go ⟨i,.m k :: .kK k :: R,O⟩:=by
 show exec L size (.jE k) ⟨i,R,O⟩=_
 simp only [exec];rw [gU size hL (by decide)];rfl
omit hL in
theorem rA {x y:By} {i:Nat} (h:bG L x i=true) (hxy:x≠y):bG L y i=false:=by
 cases h2:bG L y i with
 | false=>rfl
 | true=>exact absurd ((tq h).symm.trans (tq h2)) hxy
theorem Q5 {n:Nat} (IH:AU L size n) (i:Nat) (acc:List Pt) (hn:8*(L.length - i)+4≤n+1) (hi:i≤L.length):Wy L size 50 i acc (args L (n+1) i acc):=by
 rintro o' O rest rfl hk;simp only [args];have he:=rz size hL (IH.expr 0 i (by omega) hi (au _)) o' O (.kK .expr :: .word [41] :: rest) hk
 cases h1:expr L n 0 i with
 | bad j=>rw [h1] at he;exact he.mono (by omega)
 | ok a j =>
  rw [h1] at he;obtain ⟨hj,hij,hr⟩:=he;simp only [Out.next];have hm:=Jf size hL (i:=j) .expr (.word [41] :: rest) (o'.add a (tf L size i) :: O)
  cases h2:bG L [41] j with
  | true =>
   rw [ay rfl];rw [rA h2 (by decide),ai (by decide)] at hm;have hw:=fK size hL (by decide) rest (o'.add a (tf L size i) :: O) h2
   exact ⟨bR h2,by omega,tf L size i,(hr.trans (.cons hm (.one hw) (au _))).mono (by dsimp only;omega)⟩
  | false =>
   rw [ai (by decide)]
   unfold bI
   cases h3:bG L [44] j with
   | false =>
    rw [ai (by decide)];rw [h3,ai (by decide)] at hm
    exact (hr.fl (.cons hm (.now (gM size hL (by decide) _ _ h2)) (au _))).mono (by dsimp only;omega)
   | true =>
    have hlt:=bR h3;rw [ay rfl];rw [h3,ay rfl] at hm;simp only;have hw:=fK size hL (by decide) (.m .expr :: .kK .expr :: .word [41] :: rest) (o'.add a (tf L size i) :: O) h3;have hq:=IH.args (j+1) (o'.kids++[a]) (by omega) hlt (o'.add a (tf L size i)) O rest rfl hk
    cases h4:args L n (j+1) (o'.kids++[a]) with
    | bad k=>rw [h4] at hq;exact (hr.fl (.cons hm (.cons hw hq (au _)) (au _))).mono (by dsimp only;omega)
    | ok l k =>
     rw [h4] at hq;obtain ⟨q1,q2,kf,q3⟩:=hq
     exact ⟨q1,by omega,kf,(hr.trans (.cons hm (.cons hw q3 (au _)) (au _))).mono (by dsimp only;omega)⟩
end
section
variable {L:List aZ} (size:Nat) (hL:∀ t∈L,vB t)
include hL
theorem La {i:Nat} (R:List Stp) (O:List Open):fC L size ⟨i,.m .operand :: R,O⟩ =
  if bT L 1 i then .go ⟨i,.m .text :: .m .fin :: R,⟨Iy,[],tf L size i,[],0⟩ :: O⟩
  else if bT L 2 i then .go ⟨i,.m .text :: .m .fin :: R,⟨Iz,[],tf L size i,[],0⟩ :: O⟩
  else if bT L 0 i then .go ⟨i,.m .name :: .m .called :: .m .fin :: R,⟨P9,[],tf L size i,[],0⟩ :: O⟩
  else .go ⟨i,.word [40] :: .m .expr :: .word [41] :: .m .fin :: R,⟨Ki,[],tf L size i,[],0⟩ :: O⟩:=by
 show bD L size .operand ⟨i,R,O⟩=_
 simp only [bD];rw [vC size hL (by decide),vC size hL (by decide),vC size hL (by decide)];rfl
theorem N7 {i:Nat} (R:List Stp) (k t:By) (f kf:Int) (ks:List Pt) (O:List Open):fC L size ⟨i,.m .called :: R,⟨k,t,f,ks,kf⟩ :: O⟩ =
  if bG L [40] i then
   if t=pU then .go ⟨i+1,.m .typeOf :: .word [41] :: R,⟨pU,[],f,ks,kf⟩ :: O⟩
   else if t=jM then .go ⟨i+1,.m .typeOf :: .word [44] :: .m .expr :: .word [41] :: R,⟨jM,[],f,ks,kf⟩ :: O⟩
   else .go ⟨i+1,.jE .expr :: .word [41] :: R,⟨mO,t,f,ks,kf⟩ :: O⟩
  else .go ⟨i,R,⟨k,t,f,ks,kf⟩ :: O⟩:=by
 show bD L size .called ⟨i,R,⟨k,t,f,ks,kf⟩ :: O⟩=_
 simp only [bD];rw [gU size hL (by decide)];rfl
omit hL in
theorem UK {j:Nat} (R:List Stp) (t:By) (f kf:Int) (p:Pt) (ks:List Pt) (a:Open) (O:List Open) (h0:0<j) :
  fC L size ⟨j,.m .fin :: R,⟨Ki,t,f,p :: ks,kf⟩ :: a :: O⟩=.go ⟨j,R,a.add p f :: O⟩:=by
 show Bq L size ⟨j,R,⟨Ki,t,f,p :: ks,kf⟩ :: a :: O⟩=_
 unfold Bq
 dsimp only;rw [ai (by omega)];rfl
theorem Jg {n:Nat} (IH:AU L size n) (i:Nat) (hn:8*(L.length - i)+1≤n+1) (_hi:i≤L.length):vN L size 80 10 [.m .operand] i (operand L (n+1) i):=by
 intro T O rest;have h0:=La size hL (i:=i) rest (T :: O);simp only [operand]
 cases h1:bT L 1 i with
 | true =>
  have hlt:=gP h1;rw [h1,ay rfl] at h0;rw [ay rfl];have hx:=BM (L:=L) size (.m .fin :: rest) ⟨Iy,[],tf L size i,[],0⟩ (T :: O) hlt;have hf:=iR size rest Iy (dz L i) (tf L size i) 0 [] T O (by decide) (dX i) hlt;refine ⟨hlt,eu _,?_⟩;rw [fP hlt] at h0 hx hf ⊢
  exact .cons h0 (.cons hx (.one hf) (au _)) (by dsimp only;omega)
 | false =>
 rw [h1,ai (by decide)] at h0;rw [ai (by decide)]
 cases h2:bT L 2 i with
 | true =>
  have hlt:=gP h2;rw [h2,ay rfl] at h0;rw [ay rfl];have hx:=BM (L:=L) size (.m .fin :: rest) ⟨Iz,[],tf L size i,[],0⟩ (T :: O) hlt;have hf:=iR size rest Iz (dz L i) (tf L size i) 0 [] T O (by decide) (dX i) hlt;refine ⟨hlt,eu _,?_⟩;rw [fP hlt] at h0 hx hf ⊢
  exact .cons h0 (.cons hx (.one hf) (au _)) (by dsimp only;omega)
 | false =>
 rw [h2,ai (by decide)] at h0;rw [ai (by decide)]
 cases h3:bG L [40] i with
 | true =>
  have hlt:=bR h3
  have h4:bT L 0 i=false:=by
   cases h5:bT L 0 i with
   | false=>rfl
   | true =>
    unfold bG at h3;unfold bT at h5
    rw [aC hlt] at h3 h5;simp only [iq,Bool.or_eq_true,beq_iff_eq] at h3 h5;rw [h5] at h3
    exact absurd h3.2 (by decide)
  rw [h4,ai (by decide)] at h0;rw [ay rfl];have hw:=fK size hL (by decide) (.m .expr :: .word [41] :: .m .fin :: rest) (⟨Ki,[],tf L size i,[],0⟩ :: T :: O) h3;have he:=rz size hL (IH.expr 0 (i+1) (by omega) hlt (au _)) ⟨Ki,[],tf L size i,[],0⟩ (T :: O) (.word [41] :: .m .fin :: rest) (show ¬ Ki=dI by decide)
  cases h5:expr L n 0 (i+1) with
  | bad j=>rw [h5] at he;exact .cons h0 (.cons hw he (au _)) (by dsimp only;omega)
  | ok e j =>
   rw [h5] at he;obtain ⟨hj,hij,hr⟩:=he;simp only [Out.next]
   unfold bI
   cases h6:bG L [41] j with
   | false =>
    rw [ai (by decide)]
    exact .cons h0 (.cons hw (hr.fl (.now (gM size hL (by decide) _ _ h6))) (au _)) (by dsimp only;omega)
   | true =>
    have UL:=bR h6;rw [ay rfl];have xe:=fK size hL (by decide) (.m .fin :: rest) (⟨Ki,[],tf L size i,[e],tf L size (i+1)⟩ :: T :: O) h6;have hf:=UK (L:=L) size rest [] (tf L size i) (tf L size (i+1)) e [] T O (dX j)
    exact ⟨UL,by omega,.cons h0 (.cons hw (hr.trans (.cons xe (.one hf) (au _))) (au _)) (by dsimp only;omega)⟩
 | false =>
 rw [ai (by decide)]
 unfold gK
 cases h4:bT L 0 i with
 | false =>
  rw [h4,ai (by decide)] at h0;rw [ai (by decide)]
  exact .cons h0 (.now (gM size hL (by decide) _ _ h3)) (by dsimp only;omega)
 | true =>
  have hlt:=gP h4;rw [h4,ay rfl] at h0;rw [ay rfl];simp only [Out.next];have hm:=uk size hL (.m .called :: .m .fin :: rest) ⟨P9,[],tf L size i,[],0⟩ (T :: O) h4;have hc:=N7 size hL (i:=i+1) (.m .fin :: rest) P9 (dz L i) (tf L size i) 0 [] (T :: O)
  cases h5:bG L [40] (i+1) with
  | false =>
   rw [h5,ai (by decide)] at hc;rw [ay rfl];have hf:=iR size rest P9 (dz L i) (tf L size i) 0 [] T O (by decide) (dX i) hlt;refine ⟨hlt,eu _,?_⟩;rw [fP hlt] at h0 hm hc hf ⊢
   exact .cons h0 (.cons hm (.cons hc (.one hf) (au _)) (au _)) (by dsimp only;omega)
  | true =>
   have Bt:=bR h5;rw [h5,ay rfl] at hc;rw [ai (by decide)]
   by_cases h6:dz L i=pU
   ·rw [ay h6] at hc ⊢
    have hp:=lh size hL n (i+1+1) (by omega) Bt ⟨pU,[],tf L size i,[],0⟩ (T :: O) (.word [41] :: .m .fin :: rest)
    cases h7:typed L n (i+1+1) with
    | bad j=>rw [h7] at hp;exact .cons h0 (.cons hm (.cons hc hp (au _)) (au _)) (by dsimp only;omega)
    | ok x j =>
     rw [h7] at hp;obtain ⟨hj,hij,hr⟩:=hp;simp only
     unfold bI
     cases h8:bG L [41] j with
     | false =>
      rw [ai (by decide)]
      exact .cons h0 (.cons hm (.cons hc (hr.fl (.now (gM size hL (by decide) _ _ h8))) (au _)) (au _)) (by dsimp only;omega)
     | true =>
      have Lb:=bR h8;rw [ay rfl];have hw8:=fK size hL (by decide) (.m .fin :: rest) (⟨pU,[],tf L size i,[x],tf L size (i+1+1)⟩ :: T :: O) h8;have hf:=iR size rest pU [] (tf L size i) (tf L size (i+1+1)) [x] T O (by decide) (dX j) Lb;refine ⟨Lb,by omega,?_⟩;rw [fP hlt] at h0 hm hc hr hw8 hf ⊢
      exact .cons h0 (.cons hm (.cons hc (hr.trans (.cons hw8 (.one hf) (au _))) (au _)) (au _)) (by dsimp only;omega)
   ·rw [ai h6] at hc ⊢
    by_cases h7:dz L i=jM
    ·rw [ay h7] at hc ⊢
     have hp:=lh size hL n (i+1+1) (by omega) Bt ⟨jM,[],tf L size i,[],0⟩ (T :: O) (.word [44] :: .m .expr :: .word [41] :: .m .fin :: rest)
     cases h8:typed L n (i+1+1) with
     | bad j=>rw [h8] at hp;exact .cons h0 (.cons hm (.cons hc hp (au _)) (au _)) (by dsimp only;omega)
     | ok x j =>
      rw [h8] at hp;obtain ⟨hj,hij,hr⟩:=hp;simp only
      unfold bI
      cases h9:bG L [44] j with
      | false =>
       rw [ai (by decide)]
       exact .cons h0 (.cons hm (.cons hc (hr.fl (.now (gM size hL (by decide) _ _ h9))) (au _)) (au _)) (by dsimp only;omega)
      | true =>
       have Lc:=bR h9;rw [ay rfl];simp only;have dV:=fK size hL (by decide) (.m .expr :: .word [41] :: .m .fin :: rest) (⟨jM,[],tf L size i,[x],tf L size (i+1+1)⟩ :: T :: O) h9;have he:=rz size hL (IH.expr 0 (j+1) (by omega) Lc (au _)) ⟨jM,[],tf L size i,[x],tf L size (i+1+1)⟩ (T :: O) (.word [41] :: .m .fin :: rest) (show ¬ jM=dI by decide)
       cases h10:expr L n 0 (j+1) with
       | bad k=>rw [h10] at he;exact .cons h0 (.cons hm (.cons hc (hr.fl (.cons dV he (au _))) (au _)) (au _)) (by dsimp only;omega)
       | ok e k =>
        rw [h10] at he;obtain ⟨hk,hjk,hr2⟩:=he;simp only
        cases h11:bG L [41] k with
        | false =>
         rw [ai (by decide)]
         exact .cons h0 (.cons hm (.cons hc (hr.fl (.cons dV (hr2.fl (.now (gM size hL (by decide) _ _ h11))) (au _))) (au _)) (au _)) (by dsimp only;omega)
        | true =>
         have Wz:=bR h11;rw [ay rfl];have CV:=fK size hL (by decide) (.m .fin :: rest) (⟨jM,[],tf L size i,[x,e],tf L size (j+1)⟩ :: T :: O) h11;have hf:=iR size rest jM [] (tf L size i) (tf L size (j+1)) [x,e] T O (by decide) (dX k) Wz;refine ⟨Wz,by omega,?_⟩;rw [fP hlt] at h0 hm hc hr dV hr2 CV hf ⊢
         exact .cons h0 (.cons hm (.cons hc (hr.trans (.cons dV (hr2.trans (.cons CV (.one hf) (au _))) (au _))) (au _)) (au _)) (by dsimp only;omega)
    ·rw [ai h7] at hc ⊢
     have hco:=ET size hL (i:=i+1+1) .expr (.word [41] :: .m .fin :: rest) (⟨mO,dz L i,tf L size i,[],0⟩ :: T :: O)
     cases h8:bG L [41] (i+1+1) with
     | true =>
      have Lb:=bR h8;rw [ay rfl];rw [h8,ay rfl] at hco;have hw:=fK size hL (by decide) (.m .fin :: rest) (⟨mO,dz L i,tf L size i,[],0⟩ :: T :: O) h8;have hf:=iR size rest mO (dz L i) (tf L size i) 0 [] T O (by decide) (dX (i+1+1)) Lb;refine ⟨Lb,by omega,?_⟩;rw [fP hlt] at h0 hm hc hco hw hf ⊢
      exact .cons h0 (.cons hm (.cons hc (.cons hco (.cons hw (.one hf) (au _)) (au _)) (au _)) (au _)) (by dsimp only;omega)
     | false =>
      rw [ai (by decide)];rw [h8,ai (by decide)] at hco;have ha:=IH.args (i+1+1) [] (by omega) Bt ⟨mO,dz L i,tf L size i,[],0⟩ (T :: O) (.m .fin :: rest) rfl (show ¬ mO=dI by decide)
      cases h9:args L n (i+1+1) [] with
      | bad k=>rw [h9] at ha;exact .cons h0 (.cons hm (.cons hc (.cons hco ha (au _)) (au _)) (au _)) (by dsimp only;omega)
      | ok l k =>
       rw [h9] at ha;obtain ⟨q1,q2,kf,q3⟩:=ha;have hf:=iR size rest mO (dz L i) (tf L size i) kf l T O (by decide) (by omega) q1;refine ⟨q1,by omega,?_⟩;rw [fP hlt] at h0 hm hc hco q3 hf ⊢
       exact .cons h0 (.cons hm (.cons hc (.cons hco (q3.trans (.one hf)) (au _)) (au _)) (au _)) (by dsimp only;omega)
theorem CX:∀ n,AU L size n
 | 0=>⟨fun _ _ h=>by omega,fun _ _ _ _ h=>by omega,fun _ h=>by omega,fun _ _ _ h=>by omega,fun _ h=>by omega,fun _ _ h=>by omega⟩
 | n+1 =>
  have IH:=CX n
  ⟨fun than i h hi ht=>Q3 size IH than i h hi ht,fun than f a i h hi h0 ht=>NZ size hL IH than f a i h hi h0 ht,fun i h hi=>UJ size hL IH i h hi,
   fun f a i h hi _=>N6 size hL IH f a i h hi,fun i h hi=>Jg size hL IH i h hi,fun i acc h hi=>Q5 size hL IH i acc h hi⟩
end
section
variable {L:List aZ} (size:Nat)
def Q6 (L:List aZ) (size:Nat) (k:BH) (b:Int) (i:Nat) (acc:List Pt) (x:Out (List Pt)):Prop:=∀ (o:Open) (O:List Open) (rest:List Stp),o.kids=acc→bG L [125] i=false→match x with
 | .ok l j=>j≤L.length∧i<j∧bG L [125] j=true∧∃ kf,To L size 0 ⟨i,.m k :: .more k :: .word [125] :: rest,o :: O⟩ ⟨j,.word [125] :: rest,{ o with kids:=l,kf:=kf } :: O⟩
 | .bad j=>Fl L size b ⟨i,.m k :: .more k :: .word [125] :: rest,o :: O⟩ j
def MU (L:List aZ) (size:Nat) (b:Int) (i:Nat) (x:Out Pt):Prop:=∀ (T:Open) (O:List Open) (rest:List Stp),bG L kJ i=true→match x with
 | .ok p j=>j≤L.length∧i<j∧To L size (-60) ⟨i,.word kJ :: .m .expr :: .m .block :: .m .otherwise :: .m .fin :: rest,⟨kJ,[],tf L size i,[],0⟩ :: T :: O⟩ ⟨j,rest,T.add p (tf L size i) :: O⟩
 | .bad j=>Fl L size b ⟨i,.word kJ :: .m .expr :: .m .block :: .m .otherwise :: .m .fin :: rest,⟨kJ,[],tf L size i,[],0⟩ :: T :: O⟩ j
structure GoodS (L:List aZ) (size n:Nat):Prop where
 block:∀ i,8*(L.length - i)+1≤n→i≤L.length→vN L size 60 10 [.m .block] i (block L n i)
 stmts:∀ i acc,8*(L.length - i)+5≤n→i≤L.length→Q6 L size .stmt 80 i acc (stmts L n i acc)
 branch:∀ i,8*(L.length - i)+1≤n→i≤L.length→MU L size 10 i (branch L n i)
 stmt:∀ i,8*(L.length - i)+4≤n→i≤L.length→vN L size 50 60 [.m .stmt] i (stmt L n i)
theorem kW (i:Nat) (h:i≤L.length):i+bE L i≤L.length:=by
 unfold bE
 have h1:((L.drop i).takeWhile (fun t=>t.w==5)).length≤(L.drop i).length:=(List.takeWhile_sublist _).length_le;rw [bC] at h1
 omega
theorem N8 {i:Nat} (h:bT L 5 i=false):bE L i=0:=by
 unfold bE
 by_cases hi:i<L.length
 ·unfold bT at h
  rw [aC hi] at h;rw [bZ hi,bJ];dsimp only at h ⊢;rw [h];rfl
 ·rw [gD (by omega)];rfl
theorem Q7 {i:Nat} (h:bT L 5 i=true):0<bE L i:=by
 unfold bE
 have hi:=gP h
 unfold bT at h
 rw [aC hi] at h;rw [bZ hi,bJ];dsimp only at h ⊢;rw [h];simp
variable (hL:∀ t∈L,vB t)
include hL
theorem CY {i:Nat} (k:BH) (R:List Stp) (O:List Open):fC L size ⟨i,.lines k :: R,O⟩ =
  if bG L [125] (i+bE L i) then .go ⟨i+bE L i,R,O⟩ else .go ⟨i+bE L i,.m k :: .more k :: R,O⟩:=by
 show exec L size (.lines k) ⟨i,R,O⟩=_
 simp only [exec];rw [gU size hL (by decide)];rfl
theorem UM {i:Nat} (k:BH) (R:List Stp) (O:List Open):fC L size ⟨i,.more k :: R,O⟩=if bT L 5 i then .go ⟨i,.lines k :: R,O⟩ else .go ⟨i,R,O⟩:=by
 show exec L size (.more k) ⟨i,R,O⟩=_
 simp only [exec];rw [vC size hL (by decide)];rfl
theorem MV {j:Nat} (k:BH) (rest:List Stp) (O:List Open) :
  (bG L [125] (j+bE L j)=true∧To L size 2 ⟨j,.more k :: .word [125] :: rest,O⟩ ⟨j+bE L j,.word [125] :: rest,O⟩) ∨
  (bG L [125] (j+bE L j)=false∧bE L j=0∧Fl L size 1 ⟨j,.more k :: .word [125] :: rest,O⟩ j) ∨
  (bG L [125] (j+bE L j)=false∧0<bE L j∧To L size (-98) ⟨j,.more k :: .word [125] :: rest,O⟩ ⟨j+bE L j,.m k :: .more k :: .word [125] :: rest,O⟩):=by
 have hm:=UM size hL (i:=j) k (.word [125] :: rest) O;have hl:=CY size hL (i:=j) k (.word [125] :: rest) O
 cases h1:bT L 5 j with
 | false =>
  rw [h1,ai (by decide)] at hm;rw [N8 h1,bS]
  cases h2:bG L [125] j with
  | true=>exact .inl ⟨rfl,.last hm (by dsimp only;omega)⟩
  | false=>exact .inr (.inl ⟨rfl,rfl,.cons hm (.now (gM size hL (by decide) _ _ h2)) (by dsimp only;omega)⟩)
 | true =>
  have hp:=Q7 h1;rw [h1,ay rfl] at hm
  cases h2:bG L [125] (j+bE L j) with
  | true =>
   rw [h2,ay rfl] at hl
   exact .inl ⟨rfl,.cons hm (.one hl) (by dsimp only;omega)⟩
  | false =>
   rw [h2,ai (by decide)] at hl
   exact .inr (.inr ⟨rfl,hp,.cons hm (.one hl) (by dsimp only;omega)⟩)
theorem N9 {n:Nat} (IH:GoodS L size n) (i:Nat) (acc:List Pt) (hn:8*(L.length - i)+5≤n+1) (hi:i≤L.length):Q6 L size .stmt 80 i acc (stmts L (n+1) i acc):=by
 rintro o O rest rfl hb;simp only [stmts,hb,Bool.false_eq_true,if_false];have hp:=IH.stmt i (by omega) hi o O (.more .stmt :: .word [125] :: rest)
 cases h1:stmt L n i with
 | bad j=>rw [h1] at hp;exact hp.mono (by omega)
 | ok p j =>
  rw [h1] at hp;obtain ⟨hj,hij,hr⟩:=hp;simp only [Out.next];have hle:=kW j hj
  rcases MV size hL (j:=j) .stmt rest (o.add p (tf L size i) :: O) with ⟨q1,q2⟩|⟨q1,q0,q2⟩|⟨q1,q0,q2⟩
  ·have hs:¬ (bE L j=0∧bG L [125] j=false):=by
    rintro ⟨a,b⟩;rw [a,bS,b] at q1;cases q1
   rw [ai hs];obtain ⟨m,hm⟩:∃ m,n=m+1:=⟨n - 1,by omega⟩;rw [hm];simp only [stmts,q1,if_true]
   exact ⟨hle,by omega,trivial,tf L size i,(hr.trans q2).mono (by omega)⟩
  ·rw [q0,bS] at q1
   rw [ay ⟨q0,q1⟩]
   exact (hr.fl q2).mono (by omega)
  ·rw [ai (by omega)]
   have hk:=IH.stmts (j+bE L j) (o.kids++[p]) (by omega) hle (o.add p (tf L size i)) O rest rfl q1
   cases h2:stmts L n (j+bE L j) (o.kids++[p]) with
   | bad k=>rw [h2] at hk;exact (hr.fl (q2.fl hk)).mono (by omega)
   | ok l k =>
    rw [h2] at hk;obtain ⟨r1,r2,r3,kf,r4⟩:=hk
    exact ⟨r1,by omega,r3,kf,(hr.trans (q2.trans r4)).mono (by omega)⟩
theorem Oa {n:Nat} (IH:GoodS L size n) (i:Nat) (hn:8*(L.length - i)+1≤n+1):vN L size 60 10 [.m .block] i (block L (n+1) i):=by
 intro T O rest;have h0:=wJ size hL (k:=.block) (kd:=nX) (l:=[.word [123],.lines .stmt,.word [125],.m .fin]) (fun s=>rfl) (i:=i) rest (T :: O);simp only [block]
 unfold bI
 cases h1:bG L [123] i with
 | false =>
  rw [ai (by decide)]
  exact .cons h0 (.now (gM size hL (by decide) _ _ h1)) (by dsimp only;omega)
 | true =>
  have hlt:=bR h1;rw [ay rfl];simp only [Out.next];have hw:=fK size hL (by decide) (.lines .stmt :: .word [125] :: .m .fin :: rest) (⟨nX,[],tf L size i,[],0⟩ :: T :: O) h1;have hl:=CY size hL (i:=i+1) .stmt (.word [125] :: .m .fin :: rest) (⟨nX,[],tf L size i,[],0⟩ :: T :: O);have hle:=kW (i+1) hlt;obtain ⟨m,hm⟩:∃ m,n=m+1:=⟨n - 1,by omega⟩
  cases h2:bG L [125] (i+1+bE L (i+1)) with
  | true =>
   have hlt2:=bR h2;rw [h2,ay rfl] at hl;rw [hm];simp only [stmts,h2,if_true];have hw2:=fK size hL (by decide) (.m .fin :: rest) (⟨nX,[],tf L size i,[],0⟩ :: T :: O) h2;have hf:=iR size rest nX [] (tf L size i) 0 [] T O (by decide) (dX (i+1+bE L (i+1))) hlt2;refine ⟨hlt2,by omega,?_⟩;rw [fP hlt] at h0 hw hl hw2 hf ⊢
   exact .cons h0 (.cons hw (.cons hl (.cons hw2 (.one hf) (au _)) (au _)) (au _)) (by dsimp only;omega)
  | false =>
   rw [h2,ai (by decide)] at hl;have hk:=IH.stmts (i+1+bE L (i+1)) [] (by omega) hle ⟨nX,[],tf L size i,[],0⟩ (T :: O) (.m .fin :: rest) rfl h2
   cases h3:stmts L n (i+1+bE L (i+1)) [] with
   | bad k=>rw [h3] at hk;exact .cons h0 (.cons hw (.cons hl hk (au _)) (au _)) (by dsimp only;omega)
   | ok l k =>
    rw [h3] at hk;obtain ⟨r1,r2,r3,kf,r4⟩:=hk;have hlt3:=bR r3;simp only;rw [r3,ay rfl];have hw2:=fK size hL (by decide) (.m .fin :: rest) (⟨nX,[],tf L size i,l,kf⟩ :: T :: O) r3;have hf:=iR size rest nX [] (tf L size i) kf l T O (by decide) (dX k) hlt3;refine ⟨hlt3,by omega,?_⟩;rw [fP hlt] at h0 hw hl r4 hw2 hf ⊢
    exact .cons h0 (.cons hw (.cons hl (r4.trans (.cons hw2 (.one hf) (au _))) (au _)) (au _)) (by dsimp only;omega)
theorem Gy {i:Nat} (R:List Stp) (O:List Open):fC L size ⟨i,.m .otherwise :: R,O⟩=if bG L mM i then .go ⟨i,.word mM :: .m .iY :: R,O⟩ else .go ⟨i,R,O⟩:=by
 show bD L size .otherwise ⟨i,R,O⟩=_
 simp only [bD];rw [gU size hL (by decide)];rfl
theorem UN {i:Nat} (R:List Stp) (O:List Open):fC L size ⟨i,.m .iY :: R,O⟩ =
  if bG L kJ i then .go ⟨i,.word kJ :: .m .expr :: .m .block :: .m .otherwise :: .m .fin :: R,⟨kJ,[],tf L size i,[],0⟩ :: O⟩ else fC L size ⟨i,.m .block :: R,O⟩:=by
 show bD L size .iY ⟨i,R,O⟩=_
 simp only [bD];rw [gU size hL (by decide)];rfl
theorem Ld {n:Nat} (IH:GoodS L size n) (i:Nat) (hn:8*(L.length - i)+1≤n+1):MU L size 10 i (branch L (n+1) i):=by
 intro T O rest h1;have hlt:=bR h1;simp only [branch]
 unfold bI
 rw [h1,ay rfl];simp only [Out.next];have hw:=fK size hL (by decide) (.m .expr :: .m .block :: .m .otherwise :: .m .fin :: rest) (⟨kJ,[],tf L size i,[],0⟩ :: T :: O) h1;have he:=rz size hL ((CX size hL n).expr 0 (i+1) (by omega) hlt (au _)) ⟨kJ,[],tf L size i,[],0⟩ (T :: O) (.m .block :: .m .otherwise :: .m .fin :: rest) (show ¬ kJ=dI by decide)
 cases h2:expr L n 0 (i+1) with
 | bad j=>rw [h2] at he;exact .cons hw he (by dsimp only;omega)
 | ok e j =>
  rw [h2] at he;obtain ⟨hj,hij,hr⟩:=he;simp only;have hb:=IH.block j (by omega) hj (Open.add ⟨kJ,[],tf L size i,[],0⟩ e (tf L size (i+1))) (T :: O) (.m .otherwise :: .m .fin :: rest)
  cases h3:block L n j with
  | bad k=>rw [h3] at hb;exact .cons hw (hr.fl hb) (by dsimp only;omega)
  | ok b k =>
   rw [h3] at hb;obtain ⟨hk,hjk,hr2⟩:=hb;simp only;have ho:=Gy size hL (i:=k) (.m .fin :: rest) (⟨kJ,[],tf L size i,[e,b],tf L size j⟩ :: T :: O)
   cases h4:bG L mM k with
   | false =>
    rw [h4,ai (by decide)] at ho;rw [ai (by decide)];have hf:=iR size rest kJ [] (tf L size i) (tf L size j) [e,b] T O (by decide) (by omega) hk;refine ⟨hk,by omega,?_⟩;rw [fP hlt] at hw hr hr2 ho hf ⊢
    exact .cons hw (hr.trans (hr2.trans (.cons ho (.one hf) (au _)))) (by dsimp only;omega)
   | true =>
    have Eu:=bR h4;rw [h4,ay rfl] at ho;rw [ay rfl];have hw4:=fK size hL (by decide) (.m .iY :: .m .fin :: rest) (⟨kJ,[],tf L size i,[e,b],tf L size j⟩ :: T :: O) h4;have Q8:=UN size hL (i:=k+1) (.m .fin :: rest) (⟨kJ,[],tf L size i,[e,b],tf L size j⟩ :: T :: O)
    cases h5:bG L kJ (k+1) with
    | true =>
     rw [h5,ay rfl] at Q8;rw [ay rfl];have hq:=IH.branch (k+1) (by omega) Eu ⟨kJ,[],tf L size i,[e,b],tf L size j⟩ (T :: O) (.m .fin :: rest) h5
     cases h6:branch L n (k+1) with
     | bad m=>rw [h6] at hq;exact .cons hw (hr.fl (hr2.fl (.cons ho (.cons hw4 (.cons Q8 hq (au _)) (au _)) (au _)))) (by dsimp only;omega)
     | ok x m =>
      rw [h6] at hq;obtain ⟨q1,q2,q3⟩:=hq;have hf:=iR size rest kJ [] (tf L size i) (tf L size (k+1)) [e,b,x] T O (by decide) (by omega) q1;refine ⟨q1,by omega,?_⟩;rw [fP hlt] at hw hr hr2 ho hw4 Q8 q3 hf ⊢
      exact .cons hw (hr.trans (hr2.trans (.cons ho (.cons hw4 (.cons Q8 (q3.trans (.one hf)) (au _)) (au _)) (au _)))) (by dsimp only;omega)
    | false =>
     rw [h5,ai (by decide)] at Q8;rw [ai (by decide)];have hq:=IH.block (k+1) (by omega) Eu ⟨kJ,[],tf L size i,[e,b],tf L size j⟩ (T :: O) (.m .fin :: rest)
     have same:∀ s:St,fC L size ⟨k+1,.m .block :: .m .fin :: rest,⟨kJ,[],tf L size i,[e,b],tf L size j⟩ :: T :: O⟩=.go s→fC L size ⟨k+1,.m .iY :: .m .fin :: rest,⟨kJ,[],tf L size i,[e,b],tf L size j⟩ :: T :: O⟩=.go s:=fun s h=>Q8.trans h
     have h0:=wJ size hL (k:=.block) (kd:=nX) (l:=[.word [123],.lines .stmt,.word [125],.m .fin]) (fun s=>rfl) (i:=k+1) (.m .fin :: rest) (⟨kJ,[],tf L size i,[e,b],tf L size j⟩ :: T :: O);have aiF:=same _ h0
     cases h6:block L n (k+1) with
     | bad m =>
      rw [h6] at hq;obtain ⟨c,q1,s',q2,q3⟩:=hq
      have hne:fC L size ⟨k+1,.m .block :: .m .fin :: rest,⟨kJ,[],tf L size i,[e,b],tf L size j⟩ :: T :: O⟩≠.wrong:=by rw [h0];exact fun h=>nomatch h
      have hq':Fl L size 10 ⟨k+1,.m .iY :: .m .fin :: rest,⟨kJ,[],tf L size i,[e,b],tf L size j⟩ :: T :: O⟩ m:=by
       cases q2 with
       | refl=>exact absurd q3.1 hne
       | step g1 g2=>exact ⟨_,q1,s',.step (same _ g1) g2,q3⟩
      exact .cons hw (hr.fl (hr2.fl (.cons ho (.cons hw4 hq' (au _)) (au _)))) (by dsimp only;omega)
     | ok x m =>
      rw [h6] at hq;obtain ⟨q1,q2,c,q3,q4⟩:=hq
      have hq':To L size (-60) ⟨k+1,.m .iY :: .m .fin :: rest,⟨kJ,[],tf L size i,[e,b],tf L size j⟩ :: T :: O⟩ ⟨m,.m .fin :: rest,Open.add ⟨kJ,[],tf L size i,[e,b],tf L size j⟩ x (tf L size (k+1)) :: T :: O⟩:=by
       generalize hs2:(⟨m,.m .fin :: rest,Open.add ⟨kJ,[],tf L size i,[e,b],tf L size j⟩ x (tf L size (k+1)) :: T :: O⟩:St)=s2 at q4
       cases q4 with
       | refl=>exact absurd (congrArg St.i hs2) (by dsimp only;omega)
       | step g1 g2=>exact ⟨_,by rw [hs2] at q3;exact q3,.step (same _ g1) g2⟩
      have hf:=iR size rest kJ [] (tf L size i) (tf L size (k+1)) [e,b,x] T O (by decide) (by omega) q1;refine ⟨q1,by omega,?_⟩;rw [fP hlt] at hw hr hr2 ho hw4 hq' hf ⊢
      exact .cons hw (hr.trans (hr2.trans (.cons ho (.cons hw4 (hq'.trans (.one hf)) (au _)) (au _)))) (by dsimp only;omega)
end
section
variable {L:List aZ} (size:Nat) (hL:∀ t∈L,vB t)
include hL
theorem yQ (k:BH) (hk:∀ (i:Nat) (R:List Stp) (O:List Open),bG L jg i=true→fC L size ⟨i,.m k :: R,O⟩=.go ⟨i,.word jg :: .m .name :: .m .typeOf :: .m .fin :: R,⟨jg,[],tf L size i,[],0⟩ :: O⟩)
  (n i:Nat) (hn:2*(L.length - i)+1≤n) (h1:bG L jg i=true):vN L size 50 60 [.m k] i (iX L n i):=by
 intro T O rest;have hlt:=bR h1;have h0:=hk i rest (T :: O) h1
 unfold iX bI
 rw [h1,ay rfl];simp only [Out.next];have hw:=fK size hL (by decide) (.m .name :: .m .typeOf :: .m .fin :: rest) (⟨jg,[],tf L size i,[],0⟩ :: T :: O) h1
 unfold gK
 cases h4:bT L 0 (i+1) with
 | true =>
  have Eu:=gP h4;rw [ay rfl];have hm:=uk size hL (.m .typeOf :: .m .fin :: rest) ⟨jg,[],tf L size i,[],0⟩ (T :: O) h4;simp only;have hr:=lh size hL n (i+1+1) (by omega) Eu ⟨jg,dz L (i+1),tf L size i,[],0⟩ (T :: O) (.m .fin :: rest)
  cases h2:typed L n (i+1+1) with
  | ok p j =>
   rw [h2] at hr;obtain ⟨hj,hij,hr⟩:=hr;have hf:=iR size rest jg (dz L (i+1)) (tf L size i) (tf L size (i+1+1)) [p] T O (by decide) (by omega) hj;refine ⟨hj,by omega,?_⟩;rw [fP hlt] at h0 hw hm hr hf ⊢
   exact .cons h0 (.cons hw (.cons hm (hr.trans (.one hf)) (au _)) (au _)) (by dsimp only;omega)
  | bad j =>
   rw [h2] at hr
   exact .cons h0 (.cons hw (.cons hm hr (au _)) (au _)) (by dsimp only;omega)
 | false =>
  rw [ai (by decide)]
  exact .cons h0 (.cons hw (.now (nL size hL _ _ h4)) (au _)) (by dsimp only;omega)
theorem wM {i:Nat} (R:List Stp) (O:List Open):fC L size ⟨i,.m .stmt :: R,O⟩ =
  if bG L jg i then .go ⟨i,.word jg :: .m .name :: .m .typeOf :: .m .fin :: R,⟨jg,[],tf L size i,[],0⟩ :: O⟩
  else if bG L dN i then .go ⟨i,.word dN :: .m .returned :: .m .fin :: R,⟨dN,[],tf L size i,[],0⟩ :: O⟩
  else if bG L kJ i then .go ⟨i,.word kJ :: .m .expr :: .m .block :: .m .otherwise :: .m .fin :: R,⟨kJ,[],tf L size i,[],0⟩ :: O⟩
  else if bG L lJ i then .go ⟨i,.word lJ :: .m .expr :: .m .block :: .m .fin :: R,⟨lJ,[],tf L size i,[],0⟩ :: O⟩
  else if bG L [123] i then fC L size ⟨i,.m .block :: R,O⟩
  else .go ⟨i,.m .expr :: .m .assigned :: .m .fin :: R,⟨vo,[],tf L size i,[],0⟩ :: O⟩:=by
 show bD L size .stmt ⟨i,R,O⟩=_
 simp only [bD];rw [gU size hL (by decide),gU size hL (by decide),gU size hL (by decide),gU size hL (by decide),gU size hL (by decide)];rfl
theorem Jh {i:Nat} (R:List Stp) (O:List Open):fC L size ⟨i,.m .returned :: R,O⟩=if bT L 5 i=false∧bG L [125] i=false then .go ⟨i,.m .pre :: .m .between :: R,O⟩ else .go ⟨i,R,O⟩:=by
 show bD L size .returned ⟨i,R,O⟩=_
 simp only [bD];rw [gU size hL (by decide),vC size hL (by decide)];rfl
theorem Ji {i:Nat} (R:List Stp) (k t:By) (f kf:Int) (ks:List Pt) (O:List Open):fC L size ⟨i,.m .assigned :: R,⟨k,t,f,ks,kf⟩ :: O⟩ =
  if bG L [61] i then .go ⟨i+1,.m .pre :: .m .between :: R,⟨pM,t,f,ks,kf⟩ :: O⟩
  else if bG L [58,61] i then .go ⟨i+1,.m .pre :: .m .between :: R,⟨pN,t,f,ks,kf⟩ :: O⟩
  else .go ⟨i,R,⟨k,t,f,ks,kf⟩ :: O⟩:=by
 show bD L size .assigned ⟨i,R,⟨k,t,f,ks,kf⟩ :: O⟩=_
 simp only [bD];rw [gU size hL (by decide),gU size hL (by decide)];rfl
omit hL in
theorem Ob {a b:Int} {k k':BH} {i:Nat} {o:Out Pt} (h:vN L size a b [.m k] i o) (he:∀ R O,fC L size ⟨i,.m k' :: R,O⟩=fC L size ⟨i,.m k :: R,O⟩):vN L size a b [.m k'] i o:=by
 intro T O rest;have h1:=h T O rest;have h2:=he rest (T :: O)
 cases o with
 | ok p j =>
  obtain ⟨q1,q2,c,q3,q4⟩:=h1;refine ⟨q1,q2,c,q3,?_⟩;generalize hs2:(⟨j,rest,T.add p (tf L size i) :: O⟩:St)=s2 at q4
  cases q4 with
  | refl=>exact absurd (congrArg St.i hs2) (by dsimp only [bH,fA];omega)
  | step g1 g2=>exact .step (h2.trans g1) g2
 | bad j =>
  obtain ⟨c,q1,s',q2,q3⟩:=h1
  cases q2 with
  | refl=>exact ⟨c,q1,_,.refl _ _,h2.trans q3.1,q3.2⟩
  | step g1 g2=>exact ⟨_,q1,s',.step (h2.trans g1) g2,q3⟩
theorem UO {n:Nat} (i:Nat) (hn:8*(L.length - i)+4≤n+1) (h1:bG L dN i=true) (h2:bG L jg i=false):vN L size 50 60 [.m .stmt] i (if bT L 5 (i+1)∨bG L [125] (i+1) then T.part L dN [] (bQ L i) [] (i+1) else (expr L n 0 (i+1)).next fun e j=>T.part L dN [] (bQ L i) [e] j):=by
 intro T O rest;have hlt:=bR h1;have h0:=wM size hL (i:=i) rest (T :: O);rw [h2,ai (by decide),h1,ay rfl] at h0;have hw:=fK size hL (by decide) (.m .returned :: .m .fin :: rest) (⟨dN,[],tf L size i,[],0⟩ :: T :: O) h1;have hr:=Jh size hL (i:=i+1) (.m .fin :: rest) (⟨dN,[],tf L size i,[],0⟩ :: T :: O)
 by_cases h3:bT L 5 (i+1)=true∨bG L [125] (i+1)=true
 ·rw [ay h3]
  rw [ai (by rintro ⟨a,b⟩;rw [a,b] at h3;rcases h3 with h3|h3 <;> cases h3)] at hr;have hf:=iR size rest dN [] (tf L size i) 0 [] T O (by decide) (dX i) hlt;refine ⟨hlt,eu _,?_⟩;rw [fP hlt] at h0 hw hr hf ⊢
  exact .cons h0 (.cons hw (.cons hr (.one hf) (au _)) (au _)) (by dsimp only;omega)
 ·rw [ai h3]
  rw [ay (by
   constructor
   ·cases h:bT L 5 (i+1) with
    | false=>rfl
    | true=>exact absurd (.inl h) h3
   ·cases h:bG L [125] (i+1) with
    | false=>rfl
    | true=>exact absurd (.inr h) h3)] at hr
  have he:=wK size hL ((CX size hL n).expr 0 (i+1) (by omega) hlt (au _)) ⟨dN,[],tf L size i,[],0⟩ (T :: O) (.m .fin :: rest) (show ¬ dN=dI by decide)
  cases h4:expr L n 0 (i+1) with
  | bad j=>rw [h4] at he;exact .cons h0 (.cons hw (.cons hr he (au _)) (au _)) (by dsimp only;omega)
  | ok e j =>
   rw [h4] at he;obtain ⟨hj,hij,hx⟩:=he;have hf:=iR size rest dN [] (tf L size i) (tf L size (i+1)) [e] T O (by decide) (by omega) hj;refine ⟨hj,by omega,?_⟩;rw [fP hlt] at h0 hw hr hx hf ⊢
   exact .cons h0 (.cons hw (.cons hr (hx.trans (.one hf)) (au _)) (au _)) (by dsimp only;omega)
theorem Q9 {n:Nat} (IH:GoodS L size n) (i:Nat) (hn:8*(L.length - i)+4≤n+1) (hi:i≤L.length):vN L size 50 60 [.m .stmt] i (stmt L (n+1) i):=by
 simp only [stmt]
 by_cases h1:bG L jg i=true
 ·rw [ay h1]
  exact yQ size hL .stmt (fun i R O h=>by rw [wM size hL,h,ay rfl]) n i (by omega) h1
 rw [ai h1]
 have WB:bG L jg i=false:=by simpa using h1
 by_cases h2:bG L kJ i=true
 ·rw [ay h2]
  have hlt:=bR h2;intro T O rest;have h0:=wM size hL (i:=i) rest (T :: O);rw [WB,ai (by decide),rA h2 (by decide),ai (by decide),h2,ay rfl] at h0;have hb:=IH.branch i (by omega) hi T O rest h2
  cases h3:branch L n i with
  | bad j=>rw [h3] at hb;exact .cons h0 hb (by dsimp only;omega)
  | ok p j =>
   rw [h3] at hb;obtain ⟨q1,q2,q3⟩:=hb
   exact ⟨q1,q2,.cons h0 q3 (by dsimp only;omega)⟩
 rw [ai h2]
 have ZL:bG L kJ i=false:=by simpa using h2
 by_cases h3:bG L [123] i=true
 ·rw [ay h3]
  have hb:=Ob size (k':=.stmt) (IH.block i (by omega) hi) (fun R O=>by
   rw [wM size hL,WB,ai (by decide),rA h3 (by decide),ai (by decide),ZL,ai (by decide),rA h3 (by decide),ai (by decide),h3,ay rfl])
  intro T O rest;have hb2:=hb T O rest
  cases h4:block L n i with
  | bad j=>rw [h4] at hb2;exact hb2.mono (by omega)
  | ok p j =>
   rw [h4] at hb2
   exact ⟨hb2.1,hb2.2.1,hb2.2.2.mono (by omega)⟩
 rw [ai h3]
 have h3f:bG L [123] i=false:=by simpa using h3
 by_cases h4:bG L lJ i=true
 ·rw [ay h4]
  have hlt:=bR h4;intro T O rest;have h0:=wM size hL (i:=i) rest (T :: O);rw [WB,ai (by decide),rA h4 (by decide),ai (by decide),ZL,ai (by decide),h4,ay rfl] at h0;have hw:=fK size hL (by decide) (.m .expr :: .m .block :: .m .fin :: rest) (⟨lJ,[],tf L size i,[],0⟩ :: T :: O) h4;have he:=rz size hL ((CX size hL n).expr 0 (i+1) (by omega) hlt (au _)) ⟨lJ,[],tf L size i,[],0⟩ (T :: O) (.m .block :: .m .fin :: rest) (show ¬ lJ=dI by decide)
  cases h5:expr L n 0 (i+1) with
  | bad j=>rw [h5] at he;exact .cons h0 (.cons hw he (au _)) (by dsimp only;omega)
  | ok e j =>
   rw [h5] at he;obtain ⟨hj,hij,hr⟩:=he;simp only [Out.next];have hb:=IH.block j (by omega) hj (Open.add ⟨lJ,[],tf L size i,[],0⟩ e (tf L size (i+1))) (T :: O) (.m .fin :: rest)
   cases h6:block L n j with
   | bad k=>rw [h6] at hb;exact .cons h0 (.cons hw (hr.fl hb) (au _)) (by dsimp only;omega)
   | ok b k =>
    rw [h6] at hb;obtain ⟨hk,hjk,hr2⟩:=hb;have hf:=iR size rest lJ [] (tf L size i) (tf L size j) [e,b] T O (by decide) (by omega) hk;refine ⟨hk,by omega,?_⟩;rw [fP hlt] at h0 hw hr hr2 hf ⊢
    exact .cons h0 (.cons hw (hr.trans (hr2.trans (.one hf))) (au _)) (by dsimp only;omega)
 rw [ai h4]
 have h4f:bG L lJ i=false:=by simpa using h4
 by_cases h5:bG L dN i=true
 ·rw [ay h5];exact UO size hL i hn h5 WB
 rw [ai h5]
 have h5f:bG L dN i=false:=by simpa using h5
 intro T O rest;have h0:=wM size hL (i:=i) rest (T :: O);rw [WB,ai (by decide),h5f,ai (by decide),ZL,ai (by decide),h4f,ai (by decide),h3f,ai (by decide)] at h0;have he:=rz size hL ((CX size hL n).expr 0 i (by omega) hi (au _)) ⟨vo,[],tf L size i,[],0⟩ (T :: O) (.m .assigned :: .m .fin :: rest) (show ¬ vo=dI by decide)
 cases h6:expr L n 0 i with
 | bad j=>rw [h6] at he;exact .cons h0 he (by dsimp only;omega)
 | ok a j =>
  rw [h6] at he;obtain ⟨hj,hij,hr⟩:=he;simp only [Out.next]
  have hlt:i<L.length:=by omega
  have ha:=Ji size hL (i:=j) (.m .fin :: rest) vo [] (tf L size i) (tf L size i) [a] (T :: O)
  cases h7:bG L [61] j with
  | true =>
   have aaL:=bR h7;rw [h7,ay rfl] at ha;rw [ay rfl];have he2:=wK size hL ((CX size hL n).expr 0 (j+1) (by omega) aaL (au _)) ⟨pM,[],tf L size i,[a],tf L size i⟩ (T :: O) (.m .fin :: rest) (show ¬ pM=dI by decide)
   cases h8:expr L n 0 (j+1) with
   | bad k=>rw [h8] at he2;exact .cons h0 (hr.fl (.cons ha he2 (au _))) (by dsimp only;omega)
   | ok b k =>
    rw [h8] at he2;obtain ⟨hk,hjk,hr2⟩:=he2;have hf:=iR size rest pM [] (tf L size i) (tf L size (j+1)) [a,b] T O (by decide) (by omega) hk;refine ⟨hk,by omega,?_⟩;rw [fP hlt] at h0 hr ha hr2 hf ⊢
    exact .cons h0 (hr.trans (.cons ha (hr2.trans (.one hf)) (au _))) (by dsimp only;omega)
  | false =>
   rw [h7,ai (by decide)] at ha;rw [ai (by decide)]
   cases h8:bG L [58,61] j with
   | true =>
    have Lb:=bR h8;rw [h8,ay rfl] at ha;rw [ay rfl];have he2:=wK size hL ((CX size hL n).expr 0 (j+1) (by omega) Lb (au _)) ⟨pN,[],tf L size i,[a],tf L size i⟩ (T :: O) (.m .fin :: rest) (show ¬ pN=dI by decide)
    cases h9:expr L n 0 (j+1) with
    | bad k=>rw [h9] at he2;exact .cons h0 (hr.fl (.cons ha he2 (au _))) (by dsimp only;omega)
    | ok b k =>
     rw [h9] at he2;obtain ⟨hk,hjk,hr2⟩:=he2;have hf:=iR size rest pN [] (tf L size i) (tf L size (j+1)) [a,b] T O (by decide) (by omega) hk;refine ⟨hk,by omega,?_⟩;rw [fP hlt] at h0 hr ha hr2 hf ⊢
     exact .cons h0 (hr.trans (.cons ha (hr2.trans (.one hf)) (au _))) (by dsimp only;omega)
   | false =>
    rw [h8,ai (by decide)] at ha;rw [ai (by decide)];have hf:=iR size rest vo [] (tf L size i) (tf L size i) [a] T O (by decide) (by omega) hj;refine ⟨hj,by omega,?_⟩;rw [fP hlt] at h0 hr ha hf ⊢
    exact .cons h0 (hr.trans (.cons ha (.one hf) (au _))) (by dsimp only;omega)
theorem WC:∀ n,GoodS L size n
 | 0=>⟨fun _ h=>by omega,fun _ _ h=>by omega,fun _ h=>by omega,fun _ h=>by omega⟩
 | n+1 =>
  have IH:=WC n
  ⟨fun i h _=>Oa size hL IH i h,fun i acc h hi=>N9 size hL IH i acc h hi,fun i h _=>Ld size hL IH i h,fun i h hi=>Q9 size hL IH i h hi⟩
end
end K
end Go.Proofs.YtojoahlpgmnbnaaGreatDoor
