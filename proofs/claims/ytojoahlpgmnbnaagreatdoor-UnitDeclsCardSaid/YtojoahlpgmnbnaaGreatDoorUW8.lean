/- What the claim needs of the texts KRest, KBetw, KSim, KSimE, KSimO, KSimS, KSimD. -/
import Derived.Test.YtojoahlpgmnbnaaGreatDoorUWOp
import Derived.Test.YtojoahlpgmnbnaaGreatDoorUW7
import Derived.Test.YtojoahlpgmnbnaaGreatDoorUW1
set_option maxRecDepth 20000
set_option maxHeartbeats 16000000
namespace Go.Proofs.YtojoahlpgmnbnaaGreatDoor
namespace K
open Go.RowKit
open Go.Lib hiding intOf
open U S T
section
variable {d:Nat} {L:List bn} {size:Nat} {lv:Value} {s:St} {O:Nat→Prop}
theorem Ae {k:By} {O O':List Open} (h:oQ k O=some O'):∃ a r l p,O=a :: r∧a.kids=l++[p]∧O'=⟨k,[],a.kf,[p],0⟩ :: { a with kids:=l } :: r:=by
 cases O with
 | nil=>cases h
 | cons a r =>
  unfold oQ at h
  dsimp only at h
  cases hk:a.kids.getLast? with
  | none=>rw [hk] at h;cases h
  | some p =>
   rw [hk] at h;obtain ⟨ys,h1⟩:=List.getLast?_eq_some_iff.1 hk;rw [h1,List.dropLast_concat] at h
   exact ⟨a,r,ys,p,rfl,h1,(bf h).symm⟩
theorem Rc {W:World} (hM:Mem d L size lv s O W) (hs:Small L s) (hs1:s.opn.length<1000000) (hr:bD L size .result s≠.stuck) (ho:∃ a r,s.opn=a :: r):Calls Tryz.prog 121 #[ptr d] W (Does d L size lv s.i O W (bD L size .result s)):=by
 obtain ⟨a,r,ho⟩:=ho;have oD:=oD;simp only [bD] at hr ⊢
 cases h0:sj L size [123] s.i with
 | true =>
  rw [h0,au rfl] at hr;rw [au rfl]
  have hi:¬ s.i=0:=fun h=>hr (by rw [au h])
  rw [ai hi,ho];dsimp only
  go_enter Tryz.func121,Tryz.ntmps121
  go_wp2_with fail
  refine (eU hM hs.i fF hs.opn).mono ?_;rintro e v1 ⟨rfl,O1,hM1,hS1⟩;dsimp only
  go_wp2_with fail
  have c2:=iJ hM1 hs.i [123];dsimp only at c2;rw [h0] at c2;refine c2.mono ?_;rintro e v2 ⟨rfl,hb2⟩;dsimp only;have hM2:=hM1.below hb2
  go_wp2_with fail
  refine (QR hM2 ⟨hs.i,hs.len,hs.todo,by show s.opn.length+1≤_;omega,fun q hq=>by
   rcases bB.1 hq with rfl|hq
   ·exact aM _
   ·exact hs.kids q hq⟩ ⟨fF,[],(tok L size s.i).f,[],0⟩ a r (by show _ :: s.opn=_;rw [ho]) (by show 0<s.i;omega) (.mk fF [] 0 0 []) rfl).mono ?_
  rintro e v3 ⟨rfl,O3,vB,CY⟩;dsimp only
  (try go_wp2_with fail)
  first|go_end0|refine aA (aD rfl _ _ _) rfl ?_
  exact ⟨rfl,O3,vB,(hS1.trans (bN.of_below hb2)).trans CY⟩
 | false =>
  rw [ai (by decide)]
  go_enter Tryz.func121,Tryz.ntmps121
  go_wp2_with fail
  refine (eU hM hs.i fF hs.opn).mono ?_;rintro e v1 ⟨rfl,O1,hM1,hS1⟩;dsimp only
  go_wp2_with fail
  have c2:=iJ hM1 hs.i [123];dsimp only at c2;rw [h0] at c2;refine c2.mono ?_;rintro e v2 ⟨rfl,hb2⟩;dsimp only;have hM2:=hM1.below hb2
  go_wp2_with fail
  refine (dH hM2 [.m .typeOf,.m .fin] [.func (.func 136) #[ptr d] #[],.func (.func 123) #[ptr d] #[]] 2 rfl ⟨_,_,rfl,rfl,⟨_,_,rfl,rfl,rfl⟩⟩ (by decide) hs.todo).mono ?_;rintro e v11 ⟨rfl,O11,Ol,aeP⟩;dsimp only
  (try go_wp2_with fail)
  first|go_end0|refine aA (aD rfl _ _ _) rfl ?_
  exact ⟨rfl,O11,Ol,((hS1.trans (bN.of_below hb2)).trans aeP)⟩
theorem Re {W:World} (hM:Mem d L size lv s O W) (hs:Small L s) (hr:bD L size .behind s≠.stuck):Calls Tryz.prog 156 #[ptr d] W (Does d L size lv s.i O W (bD L size .behind s)):=by
 obtain ⟨tw,tf,te,y,hP,_,_,c1⟩:=jh hM hs.i;have oD:=oD
 have hfl:=fun X=>Ez (.int .i64 tw) (.string y) (.int .i64 tf) (.int .i64 te) X
 simp only [bD,hP] at hr ⊢;clear hP;obtain ⟨b0,h0⟩:∃ b,(y.toList==[46])=b:=⟨_,rfl⟩
 cases b0 with
 | true =>
  rw [au h0] at hr;rw [au h0]
  cases hw:oQ je s.opn with
  | none=>rw [hw] at hr;exact absurd rfl hr
  | some O' =>
   obtain ⟨a,r,l,p,ho,hk,rfl⟩:=Ae hw;clear hr hw
   go_enter Tryz.func156,Tryz.ntmps156
   go_wp2_with fail
   refine c1.mono ?_;rintro e v0 ⟨rfl,hb0⟩;dsimp only;have hM0:=hM.below hb0
   go_wp2_with fail
   refine (Ll hM0 hs je a r ho l p hk).mono ?_;rintro e v1 ⟨rfl,O1,hM1,hS1⟩;dsimp only
   go_wp2_with fail
   refine (dZ hM1 [46]).mono ?_;rintro e v11 ⟨p11,q11,rfl,Rf,hq11,wh⟩;dsimp only;have Ol:=hM1.below wh
   go_wp2_with fail
   refine (dH Ol [.word [46],.m .name,.m .fin,.m .behind] [.func (.func 131) #[] #[ptr p11,ptr q11],.func (.func 119) #[ptr d] #[],.func (.func 123) #[ptr d] #[],.func (.func 156) #[ptr d] #[]] 4 rfl ⟨_,_,rfl,⟨p11,q11,rfl,Rf,hq11⟩,⟨_,_,rfl,rfl,⟨_,_,rfl,rfl,⟨_,_,rfl,rfl,rfl⟩⟩⟩⟩ (by decide) hs.todo).mono ?_;rintro e v12 ⟨rfl,O12,Yo,aeQ⟩;dsimp only
   (try go_wp2_with fail)
   first|go_end0|refine aA (aD rfl _ _ _) rfl ?_
   exact ⟨rfl,O12,Yo,((((bN.of_below hb0).trans hS1).trans (bN.of_below wh)).trans aeQ)⟩
 | false =>
 rw [ai (show ¬ (y.toList==[46])=true by rw [h0];decide)] at hr;rw [ai (show ¬ (y.toList==[46])=true by rw [h0];decide)];obtain ⟨b1,h1⟩:∃ b,(y.toList==[91])=b:=⟨_,rfl⟩
 cases b1 with
 | true =>
  rw [au h1] at hr;rw [au h1]
  cases hw:oQ lu s.opn with
  | none=>rw [hw] at hr;exact absurd rfl hr
  | some O' =>
   obtain ⟨a,r,l,p,ho,hk,rfl⟩:=Ae hw;clear hr hw
   go_enter Tryz.func156,Tryz.ntmps156
   go_wp2_with fail
   refine c1.mono ?_;rintro e v0 ⟨rfl,hb0⟩;dsimp only;have hM0:=hM.below hb0
   go_wp2_with fail
   refine (Ll hM0 hs lu a r ho l p hk).mono ?_;rintro e v1 ⟨rfl,O1,hM1,hS1⟩;dsimp only
   go_wp2_with fail
   refine (dZ hM1 [91]).mono ?_;rintro e v11 ⟨p11,q11,rfl,Rf,hq11,wh⟩;dsimp only;have Ol:=hM1.below wh
   go_wp2_with fail
   refine (dZ Ol [93]).mono ?_;rintro e v12 ⟨p12,q12,rfl,aeR,hq12,BK⟩;dsimp only;replace Rf:=Rf.below BK;replace hq11:=hq11.below BK;have Yo:=Ol.below BK
   go_wp2_with fail
   refine (dH Yo [.word [91],.m .expr,.word [93],.m .fin,.m .behind] [.func (.func 131) #[] #[ptr p11,ptr q11],.func (.func 146) #[ptr d] #[],.func (.func 131) #[] #[ptr p12,ptr q12],.func (.func 123) #[ptr d] #[],.func (.func 156) #[ptr d] #[]] 5 rfl ⟨_,_,rfl,⟨p11,q11,rfl,Rf,hq11⟩,⟨_,_,rfl,rfl,⟨_,_,rfl,⟨p12,q12,rfl,aeR,hq12⟩,⟨_,_,rfl,rfl,⟨_,_,rfl,rfl,rfl⟩⟩⟩⟩⟩ (by decide) hs.todo).mono ?_;rintro e v13 ⟨rfl,O13,aeS,UU⟩;dsimp only
   (try go_wp2_with fail)
   first|go_end0|refine aA (aD rfl _ _ _) rfl ?_
   exact ⟨rfl,O13,aeS,(((((bN.of_below hb0).trans hS1).trans (bN.of_below wh)).trans (bN.of_below BK)).trans UU)⟩
 | false =>
 rw [ai (show ¬ (y.toList==[91])=true by rw [h1];decide)];clear hr
 go_enter Tryz.func156,Tryz.ntmps156
 go_wp2_with fail
 refine c1.mono ?_;rintro e v0 ⟨rfl,hb0⟩;dsimp only;have hM0:=hM.below hb0
 go_wp2_with fail
 first|go_end0|refine aA (aD rfl _ _ _) rfl ?_
 exact ⟨rfl,O,hM0,.of_below hb0⟩
end
section
variable {d:Nat} {L:List bn} {size:Nat} {lv:Value} {s:St} {O:Nat→Prop}
def Lm (d:Nat) (W:World):Nat:=match W.cell? ⟨d,3,none⟩ with
 | some (.slice _ n _)=>n
 | _=>0
theorem Nf {W:World} (h:Mem d L size lv s O W):Lm d W=s.opn.length:=by
 obtain ⟨tv,ov,bs,vs,xs,h⟩:=h;obtain ⟨a,c,rfl⟩:=eH h.qB;have hb:=h.blk
 unfold Lm
 simp [World.cell?,hb]
theorem Om {e σ:Int} {C O':List Open} (h:jO e σ C=some O'):∃ o r,C=o :: r ∧
  ((¬ (o.k=dG∧σ≤mK o.t)∧O'=o :: r)∨((o.k=dG∧σ≤mK o.t)∧∃ a r',r=a :: r'∧jO e σ (a.add (.mk o.k o.t o.f e o.kids) o.f :: r')=some O')):=by
 cases C with
 | nil=>cases h
 | cons o r =>
  refine ⟨o,r,rfl,?_⟩
  cases r with
  | nil =>
   by_cases hc:o.k=dG∧σ≤mK o.t
   ·simp [jO,settle,hc] at h
   ·simp only [jO,settle,hc,if_false] at h
    exact .inl ⟨hc,(bf h).symm⟩
  | cons a r' =>
   by_cases hc:o.k=dG∧σ≤mK o.t
   ·refine .inr ⟨hc,a,r',rfl,?_⟩
    unfold jO at h ⊢
    dsimp only at h ⊢;simp only [settle] at h;rw [au hc] at h
    exact h
   ·unfold jO at h
    dsimp only at h;simp only [settle] at h;rw [ai hc] at h
    exact .inl ⟨hc,(bf h).symm⟩
theorem On {W:World} (hM:Mem d L size lv s O W) (hs:Small L s) (hG:EF O W) (hk1:∀ o∈s.opn,o.kids.length<1000000) (hr:bD L size .between s≠.stuck):Calls Tryz.prog 152 #[ptr d] W (Does d L size lv s.i O W (bD L size .between s)):=by
 obtain ⟨tw,tf,te,y,_,_,hy,c1⟩:=jh hM hs.i;have oD:=oD
 have hfl:=fun X=>Ez (.int .i64 tw) (.string y) (.int .i64 tf) (.int .i64 te) X
 simp only [bD,ru] at hr ⊢
 have hi:¬ s.i=0:=fun h=>hr (by rw [au h])
 rw [ai hi] at hr ⊢;rw [hy] at hr ⊢;obtain ⟨en,hen⟩:∃ e,(tok L size (s.i - 1)).e=e:=⟨_,rfl⟩;obtain ⟨σ,hσ⟩:∃ e,mK y.toList=e:=⟨_,rfl⟩;rw [hen,hσ] at hr ⊢
 cases hset:jO en σ s.opn with
 | none=>rw [hset] at hr;exact absurd rfl hr
 | some C =>
  rw [hset] at hr;dsimp only at hr ⊢;obtain ⟨R,hR⟩:∃ R,(if 0<σ then ow s.i ([.m .text,.m .pre,.m .between]++s.todo) (oQ dG C) else IV.go ⟨s.i,s.todo,C⟩)=R:=⟨_,rfl⟩;rw [hR] at hr ⊢;have HR:=hid hR;have aeT:=hid hset;have Hen:=hid hen;have HM:=hid hM;have HG:=hid hG;have Rh:=hid hk1
  have cS:=fun X (h:dJ X 2 0 o9)=>Nc y X h
  rw [hσ] at cS;clear hset hR hen hM hG hk1 hy hσ
  go_enter Tryz.func152,Tryz.ntmps152
  go_wp2_with fail
  refine c1.mono ?_;rintro e v0 ⟨rfl,hb0⟩;dsimp only;have HG0:=hid (HG.out.stay (.of_below hb0));have HM0:=hid (HM.out.below hb0);have Jr:=hid (bN.of_below (O:=O) hb0);clear hb0 c1
  go_wp2_with fail
  refine (cS _ HG0.out.2).mono ?_;rintro e v1 ⟨rfl,hb1⟩;dsimp only;have HG1:=hid (HG0.out.stay (.of_below hb1));have dN:=hid (HM0.out.below hb1);have GH:=hid (Jr.out.trans (bN.of_below hb1));clear hb1 cS HG0 HM0 Jr
  go_wp2_with fail
  go_loopw [] (fun wr=>∃ (X:List Open) (O':Nat→Prop),Hid (jO en σ X=some C)∧Hid (Mem d L size lv { s with opn:=X } O' wr)∧Hid (bN O O' W wr)∧Hid (EF O' wr)∧Hid (X.length≤s.opn.length)∧Hid (∀ o r,X=o :: r→o.kids.length≤1000000∧∀ q∈r,q.kids.length<1000000)) (fun wr=>Lm d wr)
  case atStart=>exact ⟨s.opn,O,aeT,dN,GH,HG1,hid (ae _),hid (fun o r h=>⟨eQ (Rh.out o (by rw [h];exact bF)),fun q hq=>Rh.out q (by rw [h];exact aV _ hq)⟩)⟩
  case round =>
   obtain ⟨X,O',HX,HMX,HSX,HGX,HL,HKX⟩:=hrel;have hlen:=hid (Nf HMX.out);obtain ⟨o,r,rfl,hor⟩:=Om HX.out;obtain ⟨tv,ov,bs,us,xs,hXX⟩:=id HMX.out;obtain ⟨g,c,kv,ks,lT,o8,hT⟩:=lC hXX (o:=o) (r:=r) rfl
   have hrl:r.length≤1000000:=by have h1:=HL.out;have h2:=hs.opn;rw [aH] at h1;omega
   have cT:=fun (X:World) (hb:Below wr.heap.size wr X)=>kV hXX hT hrl hb
   have k0:=hT.cell 0 _ rfl;have k1:=hT.cell 1 _ rfl;rw [bV] at k0;obtain ⟨ko,hko,hkt⟩:=CZ o.k;obtain ⟨tk,hto,Yp⟩:=CZ o.t;rw [hko] at k0;rw [hto] at k1;have hgl:=hT.lt;have HT:=hid hT;have Yq:=hid hor;clear hor hXX hT hko hto dN GH HG1
   by_cases Oo:o.k=dG
   focus
    have h1:(ko.toList==[98,105,110,97,114,121])=true:=by rw [← hkt,Oo];rfl
    have cS2:=fun X (h:dJ X 2 0 o9)=>Nc tk X h
    rw [← Yp] at cS2;obtain ⟨σ2,hσ2⟩:∃ e,mK o.t=e:=⟨_,rfl⟩;rw [hσ2] at cS2;have QD:=hid hσ2;have HB:=hid Oo;clear hkt Yp hσ2 Oo
    by_cases hge:σ≤σ2
    ·have hd1:decide (σ≤σ2)=true:=by simpa using hge
     go_wp2_with fail
     refine (cT wr (ah _ _)).mono ?_;rintro e w1 ⟨rfl,m1,rfl⟩;dsimp only;replace k0:(wr.drewN m1).cell? _=_:=k0;replace k1:(wr.drewN m1).cell? _=_:=k1;have P8:=hid (jY wr m1);have Yr:=cT _ P8.out;generalize wr.drewN m1=W1 at k0 k1 P8 Yr ⊢
     go_wp2_with fail
     refine Yr.mono ?_;rintro e w2 ⟨rfl,m2,rfl⟩;dsimp only;replace k1:(W1.drewN m2).cell? _=_:=k1;have GI:Hid (Below wr.heap.size wr (W1.drewN m2)):=hid (P8.out.trans ⟨rfl,rfl,rfl,ae _,fun _ _=>rfl⟩);generalize W1.drewN m2=W2 at k1 GI ⊢;have P9:=hid (HGX.out.stay (.of_below GI.out));clear k0 cT Yr P8
     go_wp2_with fail
     refine (cS2 _ P9.out.2).mono ?_;rintro e w3 ⟨rfl,hb3⟩;dsimp only;have Js:=hid (GI.out.trans (hb3.mono GI.out.size));clear hb3 k1 cS2;obtain ⟨_,a,r',rfl,aa7⟩:=Yq.out.resolve_left (fun h=>h.1 ⟨HB.out,by rw [QD.out];exact hge⟩)
     go_wp2_with fail
     refine (QR (HMX.out.below Js.out) ⟨hs.i,hs.len,hs.todo,aJ HL.out hs.opn,fun q hq=>by
      have h:=HKX.out o (a :: r') rfl
      rcases bB.1 hq with rfl|hq
      ·exact h.1
      ·exact eQ (h.2 q hq)⟩ o a r' rfl (by show 0<s.i;omega) (.mk o.k o.t o.f en o.kids) (by
       show o.close (tok L size (s.i - 1)).e=_
       rw [Hen.out]
       unfold Open.close
       rw [ai (by rw [HB.out];decide),ai (by rw [HB.out];decide)])).mono ?_
     rintro e w4 ⟨rfl,O4,Kz,EB⟩;dsimp only;have mO:=hid Kz;have Yt:=hid (((HSX.out.trans (bN.of_below Js.out)).trans EB));have HG4:=hid ((HGX.out.stay (.of_below Js.out)).stay EB);clear Kz EB
     go_wp2_with fail
     go_roundw
     case rel=>exact ⟨a.add (.mk o.k o.t o.f en o.kids) o.f :: r',O4,hid aa7,mO,Yt,HG4,hid (by have:=HL.out;simp only [aH] at this ⊢;omega),hid (fun q r2 hq=>by
      have h:=(HKX.out o (a :: r') rfl).2
      cases hq
      exact ⟨by show (a.kids++[_]).length≤_;rw [aO];have:=h a bF;simp;omega,fun q hq=>h q (aV _ hq)⟩)⟩
     case measure=>rw [hlen.out,Nf mO.out];show r'.length+1<r'.length+1+1;omega
    have hd1:decide (σ≤σ2)=false:=by simpa using hge
    go_wp2_with fail
    refine (cT wr (ah _ _)).mono ?_;rintro e w1 ⟨rfl,m1,rfl⟩;dsimp only;replace k0:(wr.drewN m1).cell? _=_:=k0;replace k1:(wr.drewN m1).cell? _=_:=k1;have P8:=hid (jY wr m1);have Yr:=cT _ P8.out;generalize wr.drewN m1=W1 at k0 k1 P8 Yr ⊢
    go_wp2_with fail
    refine Yr.mono ?_;rintro e w2 ⟨rfl,m2,rfl⟩;dsimp only;replace k1:(W1.drewN m2).cell? _=_:=k1;have GI:Hid (Below wr.heap.size wr (W1.drewN m2)):=hid (P8.out.trans ⟨rfl,rfl,rfl,ae _,fun _ _=>rfl⟩);generalize W1.drewN m2=W2 at k1 GI ⊢;have P9:=hid (HGX.out.stay (.of_below GI.out));clear k0 cT Yr P8
    go_wp2_with fail
    refine (cS2 _ P9.out.2).mono ?_;rintro e w3 ⟨rfl,hb3⟩;dsimp only;have Js:=hid (GI.out.trans (hb3.mono GI.out.size));clear hb3 k1 cS2
    obtain ⟨_,rfl⟩:_∧C=o :: r:=by
     rcases Yq.out with h|h
     ·exact ⟨h.1,h.2⟩
     ·exact absurd h.1.2 (by rw [QD.out];omega)
   rotate_left
   focus
    have h1:(ko.toList==[98,105,110,97,114,121])=false:=by rw [← hkt];exact dS.2 Oo
    obtain ⟨_,rfl⟩:_∧C=o :: r:=by
     rcases Yq.out with h|h
     ·exact ⟨h.1,h.2⟩
     ·exact absurd h.1.1 Oo
    clear hkt Yp Oo
    go_wp2_with fail
    refine (cT wr (ah _ _)).mono ?_;rintro e w1 ⟨rfl,m1,rfl⟩;dsimp only;replace k0:(wr.drewN m1).cell? _=_:=k0;have Js:=hid (jY wr m1);clear k1 cT;generalize wr.drewN m1=w3 at k0 Js ⊢
   rotate_left
   all_goals
    have mU:=hid (HMX.out.below Js.out);have HS5:=hid (HSX.out.trans (bN.of_below Js.out));have hRR:=HR.out
    by_cases hpos:0<σ
    ·rw [au hpos] at hRR
     have hd2:decide (0<σ)=true:=by simpa using hpos
     cases hw:oQ dG (o :: r) with
     | none=>rw [hw] at hRR;exact absurd hRR.symm hr
     | some O5 =>
      rw [hw] at hRR;obtain ⟨a,r2,l,p,ho,hk,rfl⟩:=Ae hw
      cases ho
      obtain rfl:=hRR;clear hw hr HR
      go_wp2_with fail
      refine (Ll mU.out ⟨hs.i,hs.len,hs.todo,aJ HL.out hs.opn,fun q hq=>by
       have h:=HKX.out o r rfl
       rcases bB.1 hq with rfl|hq
       ·exact h.1
       ·exact eQ (h.2 q hq)⟩ dG o r rfl l p hk).mono ?_
      rintro e v5 ⟨rfl,O5,hM6,hS6⟩;dsimp only
      go_wp2_with fail
      refine (dH hM6 [.m .text,.m .pre,.m .between] [.func (.func 154) #[ptr d] #[],.func (.func 151) #[ptr d] #[],.func (.func 152) #[ptr d] #[]] 3 rfl ⟨_,_,rfl,rfl,⟨_,_,rfl,rfl,⟨_,_,rfl,rfl,rfl⟩⟩⟩ (by decide) hs.todo).mono ?_;rintro e v21 ⟨rfl,O21,GD,aeZ⟩;dsimp only
      (try go_wp2_with fail)
      first|go_end0|refine aA (aD rfl _ _ _) rfl ?_
      exact ⟨rfl,O21,GD,((HS5.out.trans hS6).trans aeZ)⟩
    ·rw [ai hpos] at hRR
     have hd2:decide (0<σ)=false:=by simpa using hpos
     obtain rfl:=hRR;clear hr HR
     go_wp2_with fail
     first|go_end0|refine aA (aD rfl _ _ _) rfl ?_
     exact ⟨rfl,O',mU.out,HS5.out⟩
end
end K
namespace K
open Go.Lib Go.Proofs.YtojoahlpgmnbnaaGreatDoor.U Go.Proofs.YtojoahlpgmnbnaaGreatDoor.S Go.Proofs.YtojoahlpgmnbnaaGreatDoor.T
section
variable (L:List bn) (size:Nat)
def To (c:Int) (s s':St):Prop:=∃ n:Nat,(n:Int)+100*s.i≤100*s'.i+c∧Goes L size n s s'
def Fl (c:Int) (s:St) (j:Nat):Prop:=∃ n:Nat,(n:Int)+100*s.i≤100*j+c∧uX L size n s j
def tf (i:Nat):Int:=(tok L size i).f
end
section
variable {L:List bn} {size:Nat}
theorem To.one {s s1:St} (h:fA L size s=.go s1):To L size (1+100*(s.i:Int) - 100*s1.i) s s1:=⟨1,by omega,.step h (.refl _ _)⟩
theorem To.trans {c d:Int} {a b e:St} (h:To L size c a b) (k:To L size d b e):To L size (c+d) a e:=by
 obtain ⟨n,h1,h2⟩:=h;obtain ⟨m,k1,k2⟩:=k
 exact ⟨n+m,by omega,h2.trans k2⟩
theorem To.fl {c d:Int} {a b:St} {j:Nat} (h:To L size c a b) (k:Fl L size d b j):Fl L size (c+d) a j:=by
 obtain ⟨n,h1,h2⟩:=h;obtain ⟨m,k1,k2⟩:=k
 exact ⟨n+m,by omega,h2.falls k2⟩
theorem To.mono {c d:Int} {a b:St} (h:To L size c a b) (hd:c≤d):To L size d a b:=by
 obtain ⟨n,h1,h2⟩:=h
 exact ⟨n,by omega,h2⟩
theorem Fl.mono {c d:Int} {a:St} {j:Nat} (h:Fl L size c a j) (hd:c≤d):Fl L size d a j:=by
 obtain ⟨n,h1,h2⟩:=h
 exact ⟨n,by omega,h2⟩
theorem Fl.now {s:St} (h:fA L size s=.wrong):Fl L size 0 s s.i:=⟨0,by omega,.now h 0⟩
theorem To.cons {c d:Int} {s s1 s2:St} (h:fA L size s=.go s1) (k:To L size c s1 s2) (hd:c+1+100*(s.i:Int) - 100*s1.i≤d):To L size d s s2:=((To.one h).trans k).mono (by omega)
theorem Fl.cons {c d:Int} {s s1:St} {j:Nat} (h:fA L size s=.go s1) (k:Fl L size c s1 j) (hd:c+1+100*(s.i:Int) - 100*s1.i≤d):Fl L size d s j:=((To.one h).fl k).mono (by omega)
theorem To.last {d:Int} {s s1:St} (h:fA L size s=.go s1) (hd:1+100*(s.i:Int) - 100*s1.i≤d):To L size d s s1:=(To.one h).mono hd
theorem To.stay {d:Int} {s:St} (hd:0≤d):To L size d s s:=⟨0,by omega,.refl _ _⟩
theorem bR {x:By} {i:Nat} (h:bH L x i=true):i<L.length:=by
 by_cases h1:i<L.length
 ·exact h1
 ·unfold bH at h;rw [di (by omega)] at h;cases h
theorem gL {x:Int} {i:Nat} (h:bT L x i=true):i<L.length:=by
 by_cases h1:i<L.length
 ·exact h1
 ·unfold bT at h;rw [di (by omega)] at h;cases h
theorem fJ {i:Nat} (h:i<L.length):tf L size i=bQ L i:=by unfold tf bQ;rw [mM size h,aB h]
theorem WR {j:Nat} (h0:0<j) (h:j≤L.length):(tok L size (j - 1)).e=jZ L j:=by
 unfold jZ
 rw [mM size (by omega),aB (by omega),ai (by omega)]
theorem ze {i:Nat} (h:i<L.length):(tok L size i).t=dx L i:=by unfold dx;rw [mM size h,aB h]
end
def GJ (kd:By):Bool:=!(kd==Kw)&&!(kd==eT)&&!(kd==fF)
theorem Lp {kd:By} (h:GJ kd=true):¬ kd=Kw∧¬ (kd=eT∨kd=fF):=by
 unfold GJ at h
 simp only [ic,Bool.not_eq_true',dS] at h
 exact ⟨h.1.1,fun e=>e.elim h.1.2 h.2⟩
section
variable {L:List bn} (size:Nat) (hL:∀ t∈L,vN t)
include hL
theorem fG {x:By} (hx:x∈mq) {i:Nat} (R:List Stp) (O:List Open) (h:bH L x i=true):fA L size ⟨i,.word x :: R,O⟩=.go ⟨i+1,R,O⟩:=by
 show exec L size (.word x) ⟨i,R,O⟩=_
 simp only [exec];rw [gN size hL hx,h,au rfl]
theorem gJ {x:By} (hx:x∈mq) {i:Nat} (R:List Stp) (O:List Open) (h:bH L x i=false):fA L size ⟨i,.word x :: R,O⟩=.wrong:=by
 show exec L size (.word x) ⟨i,R,O⟩=_
 simp only [exec];rw [gN size hL hx,h];rfl
theorem uE {i:Nat} (R:List Stp) (o:Open) (O:List Open) (h:bT L 0 i=true):fA L size ⟨i,.m .name :: R,o :: O⟩=.go ⟨i+1,R,{ o with t:=dx L i } :: O⟩:=by
 show bD L size .name ⟨i,R,o :: O⟩=_
 simp only [bD];rw [vP size hL (by decide),h,au rfl,ze (gL h)];rfl
theorem nT {i:Nat} (R:List Stp) (O:List Open) (h:bT L 0 i=false):fA L size ⟨i,.m .name :: R,O⟩=.wrong:=by
 show bD L size .name ⟨i,R,O⟩=_
 simp only [bD];rw [vP size hL (by decide),h];rfl
omit hL in
theorem iN {j:Nat} (R:List Stp) (kd t:By) (f kf:Int) (ks:List Pt) (a:Open) (O:List Open) (h1:GJ kd=true) (h0:0<j) (h:j≤L.length) :
  fA L size ⟨j,.m .fin :: R,⟨kd,t,f,ks,kf⟩ :: a :: O⟩=.go ⟨j,R,a.add (.mk kd t f (jZ L j) ks) f :: O⟩:=by
 show BH L size ⟨j,R,⟨kd,t,f,ks,kf⟩ :: a :: O⟩=_
 obtain ⟨h2,h3⟩:=Lp h1
 unfold BH
 dsimp only;rw [ai (by omega),WR h0 h];simp only [sJ,Open.close,h2,h3,if_false];rfl
omit hL in
theorem Cb {i:Nat} (R:List Stp) (o:Open) (O:List Open) (h:i<L.length):fA L size ⟨i,.m .text :: R,o :: O⟩=.go ⟨i+1,R,{ o with t:=dx L i } :: O⟩:=by
 show bD L size .text ⟨i,R,o :: O⟩=_
 simp only [bD];rw [au h,ze h];rfl
def wm (L:List bn) (size:Nat) (a b:Int) (x:List Stp) (i:Nat) (o:Out Pt):Prop:=∀ (T:Open) (O:List Open) (rest:List Stp),match o with
 | .ok p j=>j≤L.length∧i<j∧To L size (-a) ⟨i,x++rest,T :: O⟩ ⟨j,rest,T.add p (tf L size i) :: O⟩
 | .bad j=>Fl L size b ⟨i,x++rest,T :: O⟩ j
omit hL in
theorem GK {a b:Int} {x:List Stp} {i j:Nat} {o:Out Pt} {p:Pt} (h:wm L size a b x i o) (ho:o=.ok p j) (T:Open) (O:List Open) (rest:List Stp) :
  j≤L.length∧i<j∧To L size (-a) ⟨i,x++rest,T :: O⟩ ⟨j,rest,T.add p (tf L size i) :: O⟩:=by subst ho;exact h T O rest
omit hL in
theorem Dc {a b:Int} {x:List Stp} {i j:Nat} {o:Out Pt} (h:wm L size a b x i o) (ho:o=.bad j) (T:Open) (O:List Open) (rest:List Stp) :
  Fl L size b ⟨i,x++rest,T :: O⟩ j:=by subst ho;exact h T O rest
theorem UW {i:Nat} (R:List Stp) (O:List Open):fA L size ⟨i,.m .typeOf :: R,O⟩ =
  if bH L [42] i then .go ⟨i,.word [42] :: .m .typeOf :: .m .fin :: R,⟨vJ,[],tf L size i,[],0⟩ :: O⟩
  else if bH L [91] i then .go ⟨i,.word [91] :: .word [93] :: .m .typeOf :: .m .fin :: R,⟨qA,[],tf L size i,[],0⟩ :: O⟩
  else .go ⟨i,.m .name :: .m .fin :: R,⟨yP,[],tf L size i,[],0⟩ :: O⟩:=by
 show bD L size .typeOf ⟨i,R,O⟩=_
 simp only [bD];rw [gN size hL (by decide),gN size hL (by decide)];rfl
theorem kZ:∀ (n i:Nat),2*(L.length - i)+1≤n→i≤L.length→wm L size 60 10 [.m .typeOf] i (typed L n i)
 | 0,i,hn,_=>by omega
 | n+1,i,hn,hi=>by
  intro T O rest;have h0:=UW size hL (i:=i) rest (T :: O);simp only [typed]
  cases h1:bH L [42] i with
  | true =>
   have hlt:=bR h1;rw [h1,au rfl] at h0;rw [au rfl];have hw:=fG size hL (by decide) (.m .typeOf :: .m .fin :: rest) (⟨vJ,[],tf L size i,[],0⟩ :: T :: O) h1
   cases h2:typed L n (i+1) with
   | ok p j =>
    obtain ⟨hj,hij,hr⟩:=GK size (kZ n (i+1) (by omega) hlt) h2 ⟨vJ,[],tf L size i,[],0⟩ (T :: O) (.m .fin :: rest);refine ⟨hj,by omega,?_⟩;have hf:=iN size rest vJ [] (tf L size i) (tf L size (i+1)) [p] T O (by decide) (by omega) hj;rw [fJ hlt];rw [fJ hlt] at h0 hw hr hf
    exact .cons h0 (.cons hw (hr.trans (.one hf)) (ak _)) (by dsimp only;omega)
   | bad j =>
    have hr:=Dc size (kZ n (i+1) (by omega) hlt) h2 ⟨vJ,[],tf L size i,[],0⟩ (T :: O) (.m .fin :: rest)
    exact .cons h0 (.cons hw hr (ak _)) (by dsimp only;omega)
  | false =>
   rw [h1,ai (by decide)] at h0;rw [ai (by decide)]
   cases h3:bH L [91] i with
   | true =>
    have hlt:=bR h3;rw [h3,au rfl] at h0;rw [au rfl];have hw:=fG size hL (by decide) (.word [93] :: .m .typeOf :: .m .fin :: rest) (⟨qA,[],tf L size i,[],0⟩ :: T :: O) h3
    unfold bJ
    cases h4:bH L [93] (i+1) with
    | true =>
     have EG:=bR h4;have hw4:=fG size hL (by decide) (.m .typeOf :: .m .fin :: rest) (⟨qA,[],tf L size i,[],0⟩ :: T :: O) h4;rw [au rfl];simp only [Out.next]
     cases h2:typed L n (i+1+1) with
     | ok p j =>
      obtain ⟨hj,hij,hr⟩:=GK size (kZ n (i+1+1) (by omega) EG) h2 ⟨qA,[],tf L size i,[],0⟩ (T :: O) (.m .fin :: rest);refine ⟨hj,by omega,?_⟩;have hf:=iN size rest qA [] (tf L size i) (tf L size (i+1+1)) [p] T O (by decide) (by omega) hj;rw [fJ hlt];rw [fJ hlt] at h0 hw hw4 hr hf
      exact .cons h0 (.cons hw (.cons hw4 (hr.trans (.one hf)) (ak _)) (ak _)) (by dsimp only;omega)
     | bad j =>
      have hr:=Dc size (kZ n (i+1+1) (by omega) EG) h2 ⟨qA,[],tf L size i,[],0⟩ (T :: O) (.m .fin :: rest)
      exact .cons h0 (.cons hw (.cons hw4 hr (ak _)) (ak _)) (by dsimp only;omega)
    | false =>
     rw [ai (by decide)]
     exact .cons h0 (.cons hw (.now (gJ size hL (by decide) _ _ h4)) (ak _)) (by dsimp only;omega)
   | false =>
    rw [h3,ai (by decide)] at h0;rw [ai (by decide)]
    unfold gG
    cases h4:bT L 0 i with
    | true =>
     have hlt:=gL h4;rw [au rfl];have hw:=uE size hL (.m .fin :: rest) ⟨yP,[],tf L size i,[],0⟩ (T :: O) h4;have hf:=iN size rest yP (dx L i) (tf L size i) 0 [] T O (by decide) (dW i) hlt;refine ⟨hlt,ek _,?_⟩;rw [fJ hlt] at h0 hw hf ⊢
     exact .cons h0 (.cons hw (.one hf) (ak _)) (by dsimp only;omega)
    | false =>
     rw [ai (by decide)]
     exact .cons h0 (.now (nT size hL _ _ h4)) (by dsimp only;omega)
theorem wZ {i:Nat} {k:BV} {kd:By} {l:List Stp} (h:∀ s,bD L size k s=opened L size kd s l) (R:List Stp) (O:List Open):fA L size ⟨i,.m k :: R,O⟩=.go ⟨i,l++R,⟨kd,[],tf L size i,[],0⟩ :: O⟩:=by
 have _hL:=hL
 show bD L size k ⟨i,R,O⟩=_
 rw [h];rfl
theorem E7 (k:BV) (kd:By) (h:∀ s,bD L size k s=opened L size kd s [.m .name,.m .typeOf,.m .fin]) (hk:GJ kd=true) (n i:Nat) (hn:2*(L.length - i)+1≤n) :
  wm L size 50 20 [.m k] i (param L n kd i):=by
 intro T O rest;have h0:=wZ size hL h (i:=i) rest (T :: O)
 unfold param gG
 cases h4:bT L 0 i with
 | true =>
  have hlt:=gL h4;rw [au rfl];have hw:=uE size hL (.m .typeOf :: .m .fin :: rest) ⟨kd,[],tf L size i,[],0⟩ (T :: O) h4;simp only [Out.next]
  cases h2:typed L n (i+1) with
  | ok p j =>
   obtain ⟨hj,hij,hr⟩:=GK size (kZ size hL n (i+1) (by omega) hlt) h2 ⟨kd,dx L i,tf L size i,[],0⟩ (T :: O) (.m .fin :: rest);have hf:=iN size rest kd (dx L i) (tf L size i) (tf L size (i+1)) [p] T O hk (by omega) hj;refine ⟨hj,by omega,?_⟩;rw [fJ hlt] at h0 hw hr hf ⊢
   exact .cons h0 (.cons hw (hr.trans (.one hf)) (ak _)) (by dsimp only;omega)
  | bad j =>
   have hr:=Dc size (kZ size hL n (i+1) (by omega) hlt) h2 ⟨kd,dx L i,tf L size i,[],0⟩ (T :: O) (.m .fin :: rest)
   exact .cons h0 (.cons hw hr (ak _)) (by dsimp only;omega)
 | false =>
  rw [ai (by decide)]
  exact .cons h0 (.now (nT size hL _ _ h4)) (by dsimp only;omega)
end
theorem Lr (L:List bn) (i:Nat):0≤fE L i:=by
 unfold fE
 split
 ·unfold vI
  repeat' split
  all_goals decide
 ·exact ak _
theorem Ls {L:List bn} {i:Nat} (h:¬ i<L.length):fE L i=0:=by
 unfold fE;rw [di (by omega)]
def Ctx (than:Int) (T:Open) (O:List Open):Prop:=(than=0∧T.k≠dG)∨(T.k=dG∧mK T.t=than∧O≠[])
theorem Bd {than s e:Int} {T:Open} {O:List Open} (h:Ctx than T O) (hs:than<s∨T.k≠dG) (a:Pt) (f:Int):jO e s (T.add a f :: O)=some (T.add a f :: O):=by
 have hn:¬ ((T.add a f).k=dG∧s≤mK (T.add a f).t):=by
  rintro ⟨h1,h2⟩;have h1:T.k=dG:=h1;have h2:s≤mK T.t:=h2
  rcases hs with hs|hs
  ·rcases h with h|h
   ·exact h.2 h1
   ·rw [h.2.1] at h2;omega
  ·exact hs h1
 unfold jO
 cases O with
 | nil=>simp only [settle,hn,if_false]
 | cons b r=>simp only [settle,hn,if_false]
theorem GL {s e:Int} {t:By} (f kf:Int) (ks:List Pt) (T:Open) (O:List Open) (h:s≤mK t) :
  jO e s (⟨dG,t,f,ks,kf⟩ :: T :: O)=jO e s (T.add (.mk dG t f e ks) f :: O):=by
 show settle e s ⟨dG,t,f,ks,kf⟩ (T :: O)=_
 simp only [settle,h,and_self,if_true];rfl
theorem Af (k:By) (T:Open) (O:List Open) (a:Pt) (f:Int):oQ k (T.add a f :: O)=some (⟨k,[],f,[a],0⟩ :: { T with kf:=f } :: O):=by
 unfold oQ Open.add
 simp
section
variable {L:List bn} (size:Nat)
def te (L:List bn) (size:Nat) (i:Nat):Int:=(tok L size (i - 1)).e
def Alike (L:List bn) (size:Nat) (i:Nat) (C D:List Open):Prop:=jO (te L size i) (fE L i) C=jO (te L size i) (fE L i) D
def Ng (L:List bn) (size:Nat) (a b:Int) (than:Int) (i:Nat) (o:Out Pt):Prop:=∀ (T:Open) (O:List Open) (rest:List Stp),Ctx than T O→match o with
 | .ok p j=>j≤L.length∧i<j∧fE L j≤than∧∃ C,To L size (-a) ⟨i,.m .pre :: .m .between :: rest,T :: O⟩ ⟨j,.m .between :: rest,C⟩∧Alike L size j C (T.add p (tf L size i) :: O)
 | .bad j=>Fl L size b ⟨i,.m .pre :: .m .between :: rest,T :: O⟩ j
def Ri (L:List bn) (size:Nat) (b:Int) (than f:Int) (a:Pt) (i:Nat) (o:Out Pt):Prop:=∀ (T:Open) (O:List Open) (rest:List Stp) (C:List Open),Ctx than T O→Alike L size i C (T.add a f :: O)→match o with
 | .ok p j=>j≤L.length∧i≤j∧fE L j≤than∧∃ C',To L size 0 ⟨i,.m .between :: rest,C⟩ ⟨j,.m .between :: rest,C'⟩∧Alike L size j C' (T.add p f :: O)
 | .bad j=>Fl L size b ⟨i,.m .between :: rest,C⟩ j
def Rj (L:List bn) (size:Nat) (b:Int) (f:Int) (a:Pt) (i:Nat) (o:Out Pt):Prop:=∀ (T:Open) (O:List Open) (rest:List Stp),match o with
 | .ok p j=>j≤L.length∧i≤j∧To L size 1 ⟨i,.m .behind :: rest,T.add a f :: O⟩ ⟨j,rest,T.add p f :: O⟩
 | .bad j=>Fl L size b ⟨i,.m .behind :: rest,T.add a f :: O⟩ j
def WS (L:List bn) (size:Nat) (b:Int) (i:Nat) (acc:List Pt) (o:Out (List Pt)):Prop:=∀ (o':Open) (O:List Open) (rest:List Stp),o'.kids=acc→o'.k≠dG→match o with
 | .ok l j=>j≤L.length∧i<j∧∃ kf,To L size 0 ⟨i,.m .expr :: .kJ .expr :: .word [41] :: rest,o' :: O⟩ ⟨j,rest,{ o' with kids:=l,kf:=kf } :: O⟩
 | .bad j=>Fl L size b ⟨i,.m .expr :: .kJ .expr :: .word [41] :: rest,o' :: O⟩ j
structure Be (L:List bn) (size n:Nat):Prop where
 expr:∀ (than:Int) (i:Nat),8*(L.length - i)+3≤n→i≤L.length→0≤than→Ng L size 70 30 than i (expr L n than i)
 exprs:∀ (than f:Int) (a:Pt) (i:Nat),8*(L.length - i)+1≤n→i≤L.length→0<i→0≤than→Ri L size 30 than f a i (exprs L n than f a i)
 pre:∀ (i:Nat),8*(L.length - i)+2≤n→i≤L.length→wm L size 70 20 [.m .pre] i (cr L n i)
 tails:∀ (f:Int) (a:Pt) (i:Nat),8*(L.length - i)+1≤n→i≤L.length→0<i→Rj L size 20 f a i (tails L n f a i)
 operand:∀ (i:Nat),8*(L.length - i)+1≤n→i≤L.length→wm L size 80 10 [.m .operand] i (operand L n i)
 args:∀ (i:Nat) (acc:List Pt),8*(L.length - i)+4≤n→i≤L.length→WS L size 50 i acc (args L n i acc)
theorem De {i:Nat} {R:List Stp} {C O:List Open} (hL:∀ t∈L,vN t) (h0:0<i) (hs:jO (te L size i) (fE L i) C=some O) :
  fA L size ⟨i,.m .between :: R,C⟩=if 0<fE L i then ow i (.m .text :: .m .pre :: .m .between :: R) (oQ dG O) else .go ⟨i,R,O⟩:=by
 show ru L size ⟨i,R,C⟩=_
 unfold ru
 dsimp only;rw [ai (by omega),Gp size hL]
 unfold te at hs
 rw [hs];rfl
theorem Oq (hL:∀ t∈L,vN t) {n:Nat} (IH:Be L size n) (than f:Int) (a:Pt) (i:Nat) (hn:8*(L.length - i)+1≤n+1) (hi:i≤L.length) (h0:0<i) (ht:0≤than):Ri L size 30 than f a i (exprs L (n+1) than f a i):=by
 intro T O rest C hc hal;simp only [exprs]
 by_cases h:i<L.length∧than<fE L i
 ·rw [au h]
  obtain ⟨h1,h2⟩:=h;have hset:jO (te L size i) (fE L i) C=some (T.add a f :: O):=Eq.trans hal (Bd hc (.inl h2) a f);have hb:=De (R:=rest) size hL h0 hset;rw [au (by omega),Af] at hb;have hx:=Cb (L:=L) size (.m .pre :: .m .between :: rest) ⟨dG,[],f,[a],0⟩ ({ T with kf:=f } :: O) h1;have hM:Ctx (fE L i) ⟨dG,dx L i,f,[a],0⟩ ({ T with kf:=f } :: O):=.inr ⟨rfl,by rw [← ze (size:=size) h1];exact Gp size hL i,by simp⟩;have he:=IH.expr (fE L i) (i+1) (by omega) h1 (by omega) ⟨dG,dx L i,f,[a],0⟩ ({ T with kf:=f } :: O) rest hM
  cases h3:expr L n (fE L i) (i+1) with
  | bad j =>
   rw [h3] at he
   exact .cons hb (.cons hx he (ak _)) (by dsimp only;omega)
  | ok b j =>
   rw [h3] at he;obtain ⟨hj,hij,hsj,C2,hr,ae0⟩:=he;simp only [Out.next]
   have ae1:Alike L size j C2 (T.add (.mk dG (dx L i) f (jZ L j) [a,b]) f :: O):=by
    refine Eq.trans ae0 ?_;have hcl:=GL (s:=fE L j) (e:=te L size j) (t:=dx L i) f (tf L size (i+1)) [a,b] { T with kf:=f } O (by rw [← ze (size:=size) h1,Gp size hL i];exact hsj);rw [show te L size j=jZ L j from WR (by omega) hj] at hcl ⊢
    exact hcl
   have hk:=IH.exprs than f (.mk dG (dx L i) f (jZ L j) [a,b]) j (by omega) hj (by omega) ht T O rest C2 hc ae1
   cases h4:exprs L n than f (.mk dG (dx L i) f (jZ L j) [a,b]) j with
   | bad k =>
    rw [h4] at hk
    exact .cons hb (.cons hx (hr.fl hk) (ak _)) (by dsimp only;omega)
   | ok p k =>
    rw [h4] at hk;obtain ⟨q1,q2,q3,C3,q4,q5⟩:=hk
    exact ⟨q1,by omega,q3,C3,.cons hb (.cons hx (hr.trans q4) (ak _)) (by dsimp only;omega),q5⟩
 ·rw [ai h]
  refine ⟨hi,ae _,?_,C,.stay (ak _),hal⟩
  by_cases h1:i<L.length
  ·have:¬ than<fE L i:=fun e=>h ⟨h1,e⟩
   omega
  ·rw [Ls h1];exact ht
theorem Rk {n:Nat} (IH:Be L size n) (than:Int) (i:Nat) (hn:8*(L.length - i)+3≤n+1) (hi:i≤L.length) (ht:0≤than):Ng L size 70 30 than i (expr L (n+1) than i):=by
 intro T O rest hc;simp only [expr];have hp:=IH.pre i (by omega) hi T O (.m .between :: rest)
 cases h:cr L n i with
 | bad j=>rw [h] at hp;exact hp.mono (by omega)
 | ok a j =>
  rw [h] at hp;obtain ⟨hj,hij,hr⟩:=hp;simp only [Out.next];rw [fJ (by omega)] at hr ⊢;have hk:=IH.exprs than (bQ L i) a j (by omega) hj (by omega) ht T O rest _ hc (Eq.refl (jO (te L size j) (fE L j) (T.add a (bQ L i) :: O)))
  cases h4:exprs L n than (bQ L i) a j with
  | bad k=>rw [h4] at hk;exact (hr.fl hk).mono (by omega)
  | ok p k =>
   rw [h4] at hk;obtain ⟨q1,q2,q3,C3,q4,q5⟩:=hk
   exact ⟨q1,by omega,q3,C3,(hr.trans q4).mono (by omega),q5⟩
theorem xc (hL:∀ t∈L,vN t) {n i:Nat} (h:Ng L size 70 30 0 i (expr L n 0 i)) (T:Open) (O:List Open) (rest:List Stp) (hT:T.k≠dG):match expr L n 0 i with
  | .ok p j=>j≤L.length∧i<j∧To L size (-69) ⟨i,.m .pre :: .m .between :: rest,T :: O⟩ ⟨j,rest,T.add p (tf L size i) :: O⟩
  | .bad j=>Fl L size 30 ⟨i,.m .pre :: .m .between :: rest,T :: O⟩ j:=by
 have hk:=h T O rest (.inl ⟨rfl,hT⟩)
 cases h1:expr L n 0 i with
 | bad j=>rw [h1] at hk;exact hk
 | ok p j =>
  rw [h1] at hk;obtain ⟨q1,q2,q3,C,q4,q5⟩:=hk
  have hz:fE L j=0:=by have:=Lr L j;omega
  have hb:=De (R:=rest) size hL (by omega) (Eq.trans q5 (Bd (.inl ⟨rfl,hT⟩) (.inr hT) p (tf L size i)));rw [hz,ai (by decide)] at hb
  exact ⟨q1,q2,(q4.trans (.one hb)).mono (by dsimp only;omega)⟩
theorem rE (hL:∀ t∈L,vN t) {n i:Nat} (h:Ng L size 70 30 0 i (expr L n 0 i)) (T:Open) (O:List Open) (rest:List Stp) (hT:T.k≠dG):match expr L n 0 i with
  | .ok p j=>j≤L.length∧i<j∧To L size (-68) ⟨i,.m .expr :: rest,T :: O⟩ ⟨j,rest,T.add p (tf L size i) :: O⟩
  | .bad j=>Fl L size 31 ⟨i,.m .expr :: rest,T :: O⟩ j:=by
 have hk:=xc size hL h T O rest hT;have h0:fA L size ⟨i,.m .expr :: rest,T :: O⟩=.go ⟨i,.m .pre :: .m .between :: rest,T :: O⟩:=rfl
 cases h1:expr L n 0 i with
 | bad j=>rw [h1] at hk;exact .cons h0 hk (by dsimp only;omega)
 | ok p j =>
  rw [h1] at hk;obtain ⟨q1,q2,q4⟩:=hk
  exact ⟨q1,q2,.cons h0 q4 (by dsimp only;omega)⟩
end
section
variable {L:List bn} (size:Nat) (hL:∀ t∈L,vN t)
include hL
theorem Rl {i:Nat} (R:List Stp) (O:List Open):fA L size ⟨i,.m .pre :: R,O⟩ =
  if bH L [38] i∨bH L [42] i∨bH L [45] i∨bH L [33] i then .go ⟨i,.m .text :: .m .pre :: .m .fin :: R,⟨jK,[],tf L size i,[],0⟩ :: O⟩ else .go ⟨i,.m .operand :: .m .behind :: R,O⟩:=by
 show bD L size .pre ⟨i,R,O⟩=_
 simp only [bD];rw [gN size hL (by decide),gN size hL (by decide),gN size hL (by decide),gN size hL (by decide)];rfl
theorem xe {n:Nat} (IH:Be L size n) (x:By) (i:Nat) (hn:8*(L.length - i)+2≤n+1) (h:bH L x i=true) (ho:bH L [38] i∨bH L [42] i∨bH L [45] i∨bH L [33] i) (hx:dx L i=x) :
  wm L size 70 20 [.m .pre] i ((cr L n (i+1)).next fun e j=>T.part L jK x (bQ L i) [e] j):=by
 intro T O rest;have hlt:=bR h;have h0:=Rl size hL (i:=i) rest (T :: O);rw [au ho] at h0;have h1:=Cb (L:=L) size (.m .pre :: .m .fin :: rest) ⟨jK,[],tf L size i,[],0⟩ (T :: O) hlt;rw [hx] at h1;have hp:=IH.pre (i+1) (by omega) hlt ⟨jK,x,tf L size i,[],0⟩ (T :: O) (.m .fin :: rest)
 cases h2:cr L n (i+1) with
 | bad j=>rw [h2] at hp;exact .cons h0 (.cons h1 hp (ak _)) (by dsimp only;omega)
 | ok p j =>
  rw [h2] at hp;obtain ⟨hj,hij,hr⟩:=hp;have hf:=iN size rest jK x (tf L size i) (tf L size (i+1)) [p] T O (by decide) (by omega) hj;refine ⟨hj,by omega,?_⟩;rw [fJ hlt] at h0 h1 hr hf ⊢
  exact .cons h0 (.cons h1 (hr.trans (.one hf)) (ak _)) (by dsimp only;omega)
omit hL in
theorem tN {x:By} {i:Nat} (h:bH L x i=true):dx L i=x:=by
 unfold bH at h;unfold dx
 split at h
 ·simp only [ic,beq_iff_eq] at h;rename_i t ht;exact h.1
 ·cases h
theorem UX {n:Nat} (IH:Be L size n) (i:Nat) (hn:8*(L.length - i)+2≤n+1) (hi:i≤L.length):wm L size 70 20 [.m .pre] i (cr L (n+1) i):=by
 simp only [cr]
 by_cases h1:bH L [38] i=true
 ·rw [au h1];exact xe size hL IH [38] i hn h1 (.inl h1) (tN h1)
 rw [ai h1]
 by_cases h2:bH L [42] i=true
 ·rw [au h2];exact xe size hL IH [42] i hn h2 (.inr (.inl h2)) (tN h2)
 rw [ai h2]
 by_cases h3:bH L [45] i=true
 ·rw [au h3];exact xe size hL IH [45] i hn h3 (.inr (.inr (.inl h3))) (tN h3)
 rw [ai h3]
 by_cases h4:bH L [33] i=true
 ·rw [au h4];exact xe size hL IH [33] i hn h4 (.inr (.inr (.inr h4))) (tN h4)
 rw [ai h4];intro T O rest;have h0:=Rl size hL (i:=i) rest (T :: O);rw [ai (by rintro (h|h|h|h);exact h1 h;exact h2 h;exact h3 h;exact h4 h)] at h0;have hp:=IH.operand i (by omega) hi T O (.m .behind :: rest)
 cases h5:operand L n i with
 | bad j=>rw [h5] at hp;exact .cons h0 hp (by dsimp only;omega)
 | ok a j =>
  rw [h5] at hp;obtain ⟨hj,hij,hr⟩:=hp;simp only [Out.next];rw [fJ (by omega)] at hr ⊢;have hk:=IH.tails (bQ L i) a j (by omega) hj (by omega) T O rest
  cases h6:tails L n (bQ L i) a j with
  | bad k=>rw [h6] at hk;exact .cons h0 (hr.fl hk) (by dsimp only;omega)
  | ok p k =>
   rw [h6] at hk;obtain ⟨q1,q2,q3⟩:=hk
   exact ⟨q1,by omega,.cons h0 (hr.trans q3) (by dsimp only;omega)⟩
theorem Ot {i:Nat} (R:List Stp) (T:Open) (O:List Open) (a:Pt) (f:Int):fA L size ⟨i,.m .behind :: R,T.add a f :: O⟩ =
  if bH L [46] i then .go ⟨i,.word [46] :: .m .name :: .m .fin :: .m .behind :: R,⟨je,[],f,[a],0⟩ :: { T with kf:=f } :: O⟩
  else if bH L [91] i then .go ⟨i,.word [91] :: .m .expr :: .word [93] :: .m .fin :: .m .behind :: R,⟨lu,[],f,[a],0⟩ :: { T with kf:=f } :: O⟩
  else .go ⟨i,R,T.add a f :: O⟩:=by
 show bD L size .behind ⟨i,R,T.add a f :: O⟩=_
 simp only [bD];rw [gN size hL (by decide),gN size hL (by decide),Af,Af];rfl
theorem Ou {n:Nat} (IH:Be L size n) (f:Int) (a:Pt) (i:Nat) (hn:8*(L.length - i)+1≤n+1) (hi:i≤L.length):Rj L size 20 f a i (tails L (n+1) f a i):=by
 intro T O rest;have h0:=Ot size hL (i:=i) rest T O a f;simp only [tails]
 cases h1:bH L [46] i with
 | true =>
  have hlt:=bR h1;rw [h1,au rfl] at h0;rw [au rfl];have hw:=fG size hL (by decide) (.m .name :: .m .fin :: .m .behind :: rest) (⟨je,[],f,[a],0⟩ :: { T with kf:=f } :: O) h1
  unfold gG
  cases h2:bT L 0 (i+1) with
  | false =>
   rw [ai (by decide)]
   exact .cons h0 (.cons hw (.now (nT size hL _ _ h2)) (ak _)) (by dsimp only;omega)
  | true =>
   have hlt2:=gL h2;rw [au rfl];simp only [Out.next];have hm:=uE size hL (.m .fin :: .m .behind :: rest) ⟨je,[],f,[a],0⟩ ({ T with kf:=f } :: O) h2;have hf:=iN size (.m .behind :: rest) je (dx L (i+1)) f 0 [a] { T with kf:=f } O (by decide) (dW (i+1)) hlt2;have hk:=IH.tails f (.mk je (dx L (i+1)) f (jZ L (i+1+1)) [a]) (i+1+1) (by omega) hlt2 (by omega) T O rest
   cases h6:tails L n f (.mk je (dx L (i+1)) f (jZ L (i+1+1)) [a]) (i+1+1) with
   | bad k=>rw [h6] at hk;exact .cons h0 (.cons hw (.cons hm (.cons hf hk (ak _)) (ak _)) (ak _)) (by dsimp only;omega)
   | ok p k =>
    rw [h6] at hk;obtain ⟨q1,q2,q3⟩:=hk
    exact ⟨q1,by omega,.cons h0 (.cons hw (.cons hm (.cons hf q3 (ak _)) (ak _)) (ak _)) (by dsimp only;omega)⟩
 | false =>
  rw [h1,ai (by decide)] at h0;rw [ai (by decide)]
  cases h3:bH L [91] i with
  | false =>
   rw [h3,ai (by decide)] at h0;rw [ai (by decide)]
   exact ⟨hi,ae _,.last h0 (by dsimp only;omega)⟩
  | true =>
   have hlt:=bR h3;rw [h3,au rfl] at h0;rw [au rfl];have hw:=fG size hL (by decide) (.m .expr :: .word [93] :: .m .fin :: .m .behind :: rest) (⟨lu,[],f,[a],0⟩ :: { T with kf:=f } :: O) h3;have he:=rE size hL (IH.expr 0 (i+1) (by omega) hlt (ak _)) ⟨lu,[],f,[a],0⟩ ({ T with kf:=f } :: O) (.word [93] :: .m .fin :: .m .behind :: rest) (show ¬ lu=dG by decide)
   cases h4:expr L n 0 (i+1) with
   | bad j=>rw [h4] at he;exact .cons h0 (.cons hw he (ak _)) (by dsimp only;omega)
   | ok e j =>
    rw [h4] at he;obtain ⟨hj,hij,hr⟩:=he;simp only [Out.next]
    unfold bJ
    cases h5:bH L [93] j with
    | false =>
     rw [ai (by decide)]
     exact .cons h0 (.cons hw (hr.fl (.now (gJ size hL (by decide) _ _ h5))) (ak _)) (by dsimp only;omega)
    | true =>
     have BJ:=bR h5;rw [au rfl];simp only;have jr:=fG size hL (by decide) (.m .fin :: .m .behind :: rest) (⟨lu,[],f,[a,e],tf L size (i+1)⟩ :: { T with kf:=f } :: O) h5;have hf:=iN size (.m .behind :: rest) lu [] f (tf L size (i+1)) [a,e] { T with kf:=f } O (by decide) (dW j) BJ;have hk:=IH.tails f (.mk lu [] f (jZ L (j+1)) [a,e]) (j+1) (by omega) BJ (by omega) T O rest
     cases h6:tails L n f (.mk lu [] f (jZ L (j+1)) [a,e]) (j+1) with
     | bad k=>rw [h6] at hk;exact .cons h0 (.cons hw (hr.fl (.cons jr (.cons hf hk (ak _)) (ak _))) (ak _)) (by dsimp only;omega)
     | ok p k =>
      rw [h6] at hk;obtain ⟨q1,q2,q3⟩:=hk
      exact ⟨q1,by omega,.cons h0 (.cons hw (hr.trans (.cons jr (.cons hf q3 (ak _)) (ak _))) (ak _)) (by dsimp only;omega)⟩
theorem Jt {i:Nat} (k:BV) (R:List Stp) (O:List Open):fA L size ⟨i,.kJ k :: R,O⟩=if bH L [44] i then .go ⟨i,.word [44] :: .m k :: .kJ k :: R,O⟩ else .go ⟨i,R,O⟩:=by
 show exec L size (.kJ k) ⟨i,R,O⟩=_
 simp only [exec];rw [gN size hL (by decide)];rfl
theorem E8 {i:Nat} (k:BV) (R:List Stp) (O:List Open):fA L size ⟨i,.jD k :: R,O⟩=if bH L [41] i then .go ⟨i,R,O⟩ else .go ⟨i,.m k :: .kJ k :: R,O⟩:=by
 show exec L size (.jD k) ⟨i,R,O⟩=_
 simp only [exec];rw [gN size hL (by decide)];rfl
omit hL in
theorem rF {x y:By} {i:Nat} (h:bH L x i=true) (hxy:x≠y):bH L y i=false:=by
 cases h2:bH L y i with
 | false=>rfl
 | true=>exact absurd ((tN h).symm.trans (tN h2)) hxy
theorem Rm {n:Nat} (IH:Be L size n) (i:Nat) (acc:List Pt) (hn:8*(L.length - i)+4≤n+1) (hi:i≤L.length):WS L size 50 i acc (args L (n+1) i acc):=by
 rintro o' O rest rfl hk;simp only [args];have he:=rE size hL (IH.expr 0 i (by omega) hi (ak _)) o' O (.kJ .expr :: .word [41] :: rest) hk
 cases h1:expr L n 0 i with
 | bad j=>rw [h1] at he;exact he.mono (by omega)
 | ok a j =>
  rw [h1] at he;obtain ⟨hj,hij,hr⟩:=he;simp only [Out.next];have hm:=Jt size hL (i:=j) .expr (.word [41] :: rest) (o'.add a (tf L size i) :: O)
  cases h2:bH L [41] j with
  | true =>
   rw [au rfl];rw [rF h2 (by decide),ai (by decide)] at hm;have hw:=fG size hL (by decide) rest (o'.add a (tf L size i) :: O) h2
   exact ⟨bR h2,by omega,tf L size i,(hr.trans (.cons hm (.one hw) (ak _))).mono (by dsimp only;omega)⟩
  | false =>
   rw [ai (by decide)]
   unfold bJ
   cases h3:bH L [44] j with
   | false =>
    rw [ai (by decide)];rw [h3,ai (by decide)] at hm
    exact (hr.fl (.cons hm (.now (gJ size hL (by decide) _ _ h2)) (ak _))).mono (by dsimp only;omega)
   | true =>
    have hlt:=bR h3;rw [au rfl];rw [h3,au rfl] at hm;simp only;have hw:=fG size hL (by decide) (.m .expr :: .kJ .expr :: .word [41] :: rest) (o'.add a (tf L size i) :: O) h3;have hq:=IH.args (j+1) (o'.kids++[a]) (by omega) hlt (o'.add a (tf L size i)) O rest rfl hk
    cases h4:args L n (j+1) (o'.kids++[a]) with
    | bad k=>rw [h4] at hq;exact (hr.fl (.cons hm (.cons hw hq (ak _)) (ak _))).mono (by dsimp only;omega)
    | ok l k =>
     rw [h4] at hq;obtain ⟨q1,q2,kf,q3⟩:=hq
     exact ⟨q1,by omega,kf,(hr.trans (.cons hm (.cons hw q3 (ak _)) (ak _))).mono (by dsimp only;omega)⟩
end
section
variable {L:List bn} (size:Nat) (hL:∀ t∈L,vN t)
include hL
theorem Lt {i:Nat} (R:List Stp) (O:List Open):fA L size ⟨i,.m .operand :: R,O⟩ =
  if bT L 1 i then .go ⟨i,.m .text :: .m .fin :: R,⟨IQ,[],tf L size i,[],0⟩ :: O⟩
  else if bT L 2 i then .go ⟨i,.m .text :: .m .fin :: R,⟨IU,[],tf L size i,[],0⟩ :: O⟩
  else if bT L 0 i then .go ⟨i,.m .name :: .m .called :: .m .fin :: R,⟨Qn,[],tf L size i,[],0⟩ :: O⟩
  else .go ⟨i,.word [40] :: .m .expr :: .word [41] :: .m .fin :: R,⟨Kw,[],tf L size i,[],0⟩ :: O⟩:=by
 show bD L size .operand ⟨i,R,O⟩=_
 simp only [bD];rw [vP size hL (by decide),vP size hL (by decide),vP size hL (by decide)];rfl
theorem Ov {i:Nat} (R:List Stp) (k t:By) (f kf:Int) (ks:List Pt) (O:List Open):fA L size ⟨i,.m .called :: R,⟨k,t,f,ks,kf⟩ :: O⟩ =
  if bH L [40] i then
   if t=p9 then .go ⟨i+1,.m .typeOf :: .word [41] :: R,⟨p9,[],f,ks,kf⟩ :: O⟩
   else if t=jL then .go ⟨i+1,.m .typeOf :: .word [44] :: .m .expr :: .word [41] :: R,⟨jL,[],f,ks,kf⟩ :: O⟩
   else .go ⟨i+1,.jD .expr :: .word [41] :: R,⟨mW,t,f,ks,kf⟩ :: O⟩
  else .go ⟨i,R,⟨k,t,f,ks,kf⟩ :: O⟩:=by
 show bD L size .called ⟨i,R,⟨k,t,f,ks,kf⟩ :: O⟩=_
 simp only [bD];rw [gN size hL (by decide)];rfl
omit hL in
theorem UY {j:Nat} (R:List Stp) (t:By) (f kf:Int) (p:Pt) (ks:List Pt) (a:Open) (O:List Open) (h0:0<j) :
  fA L size ⟨j,.m .fin :: R,⟨Kw,t,f,p :: ks,kf⟩ :: a :: O⟩=.go ⟨j,R,a.add p f :: O⟩:=by
 show BH L size ⟨j,R,⟨Kw,t,f,p :: ks,kf⟩ :: a :: O⟩=_
 unfold BH
 dsimp only;rw [ai (by omega)];rfl
theorem Ju {n:Nat} (IH:Be L size n) (i:Nat) (hn:8*(L.length - i)+1≤n+1) (_hi:i≤L.length):wm L size 80 10 [.m .operand] i (operand L (n+1) i):=by
 intro T O rest;have h0:=Lt size hL (i:=i) rest (T :: O);simp only [operand]
 cases h1:bT L 1 i with
 | true =>
  have hlt:=gL h1;rw [h1,au rfl] at h0;rw [au rfl];have hx:=Cb (L:=L) size (.m .fin :: rest) ⟨IQ,[],tf L size i,[],0⟩ (T :: O) hlt;have hf:=iN size rest IQ (dx L i) (tf L size i) 0 [] T O (by decide) (dW i) hlt;refine ⟨hlt,ek _,?_⟩;rw [fJ hlt] at h0 hx hf ⊢
  exact .cons h0 (.cons hx (.one hf) (ak _)) (by dsimp only;omega)
 | false =>
 rw [h1,ai (by decide)] at h0;rw [ai (by decide)]
 cases h2:bT L 2 i with
 | true =>
  have hlt:=gL h2;rw [h2,au rfl] at h0;rw [au rfl];have hx:=Cb (L:=L) size (.m .fin :: rest) ⟨IU,[],tf L size i,[],0⟩ (T :: O) hlt;have hf:=iN size rest IU (dx L i) (tf L size i) 0 [] T O (by decide) (dW i) hlt;refine ⟨hlt,ek _,?_⟩;rw [fJ hlt] at h0 hx hf ⊢
  exact .cons h0 (.cons hx (.one hf) (ak _)) (by dsimp only;omega)
 | false =>
 rw [h2,ai (by decide)] at h0;rw [ai (by decide)]
 cases h3:bH L [40] i with
 | true =>
  have hlt:=bR h3
  have h4:bT L 0 i=false:=by
   cases h5:bT L 0 i with
   | false=>rfl
   | true =>
    unfold bH at h3;unfold bT at h5
    rw [aB hlt] at h3 h5;simp only [ic,Bool.or_eq_true,beq_iff_eq] at h3 h5;rw [h5] at h3
    exact absurd h3.2 (by decide)
  rw [h4,ai (by decide)] at h0;rw [au rfl];have hw:=fG size hL (by decide) (.m .expr :: .word [41] :: .m .fin :: rest) (⟨Kw,[],tf L size i,[],0⟩ :: T :: O) h3;have he:=rE size hL (IH.expr 0 (i+1) (by omega) hlt (ak _)) ⟨Kw,[],tf L size i,[],0⟩ (T :: O) (.word [41] :: .m .fin :: rest) (show ¬ Kw=dG by decide)
  cases h5:expr L n 0 (i+1) with
  | bad j=>rw [h5] at he;exact .cons h0 (.cons hw he (ak _)) (by dsimp only;omega)
  | ok e j =>
   rw [h5] at he;obtain ⟨hj,hij,hr⟩:=he;simp only [Out.next]
   unfold bJ
   cases h6:bH L [41] j with
   | false =>
    rw [ai (by decide)]
    exact .cons h0 (.cons hw (hr.fl (.now (gJ size hL (by decide) _ _ h6))) (ak _)) (by dsimp only;omega)
   | true =>
    have UZ:=bR h6;rw [au rfl];have xz:=fG size hL (by decide) (.m .fin :: rest) (⟨Kw,[],tf L size i,[e],tf L size (i+1)⟩ :: T :: O) h6;have hf:=UY (L:=L) size rest [] (tf L size i) (tf L size (i+1)) e [] T O (dW j)
    exact ⟨UZ,by omega,.cons h0 (.cons hw (hr.trans (.cons xz (.one hf) (ak _))) (ak _)) (by dsimp only;omega)⟩
 | false =>
 rw [ai (by decide)]
 unfold gG
 cases h4:bT L 0 i with
 | false =>
  rw [h4,ai (by decide)] at h0;rw [ai (by decide)]
  exact .cons h0 (.now (gJ size hL (by decide) _ _ h3)) (by dsimp only;omega)
 | true =>
  have hlt:=gL h4;rw [h4,au rfl] at h0;rw [au rfl];simp only [Out.next];have hm:=uE size hL (.m .called :: .m .fin :: rest) ⟨Qn,[],tf L size i,[],0⟩ (T :: O) h4;have hc:=Ov size hL (i:=i+1) (.m .fin :: rest) Qn (dx L i) (tf L size i) 0 [] (T :: O)
  cases h5:bH L [40] (i+1) with
  | false =>
   rw [h5,ai (by decide)] at hc;rw [au rfl];have hf:=iN size rest Qn (dx L i) (tf L size i) 0 [] T O (by decide) (dW i) hlt;refine ⟨hlt,ek _,?_⟩;rw [fJ hlt] at h0 hm hc hf ⊢
   exact .cons h0 (.cons hm (.cons hc (.one hf) (ak _)) (ak _)) (by dsimp only;omega)
  | true =>
   have BJ:=bR h5;rw [h5,au rfl] at hc;rw [ai (by decide)]
   by_cases h6:dx L i=p9
   ·rw [au h6] at hc ⊢
    have hp:=kZ size hL n (i+1+1) (by omega) BJ ⟨p9,[],tf L size i,[],0⟩ (T :: O) (.word [41] :: .m .fin :: rest)
    cases h7:typed L n (i+1+1) with
    | bad j=>rw [h7] at hp;exact .cons h0 (.cons hm (.cons hc hp (ak _)) (ak _)) (by dsimp only;omega)
    | ok x j =>
     rw [h7] at hp;obtain ⟨hj,hij,hr⟩:=hp;simp only
     unfold bJ
     cases h8:bH L [41] j with
     | false =>
      rw [ai (by decide)]
      exact .cons h0 (.cons hm (.cons hc (hr.fl (.now (gJ size hL (by decide) _ _ h8))) (ak _)) (ak _)) (by dsimp only;omega)
     | true =>
      have Lu:=bR h8;rw [au rfl];have hw8:=fG size hL (by decide) (.m .fin :: rest) (⟨p9,[],tf L size i,[x],tf L size (i+1+1)⟩ :: T :: O) h8;have hf:=iN size rest p9 [] (tf L size i) (tf L size (i+1+1)) [x] T O (by decide) (dW j) Lu;refine ⟨Lu,by omega,?_⟩;rw [fJ hlt] at h0 hm hc hr hw8 hf ⊢
      exact .cons h0 (.cons hm (.cons hc (hr.trans (.cons hw8 (.one hf) (ak _))) (ak _)) (ak _)) (by dsimp only;omega)
   ·rw [ai h6] at hc ⊢
    by_cases h7:dx L i=jL
    ·rw [au h7] at hc ⊢
     have hp:=kZ size hL n (i+1+1) (by omega) BJ ⟨jL,[],tf L size i,[],0⟩ (T :: O) (.word [44] :: .m .expr :: .word [41] :: .m .fin :: rest)
     cases h8:typed L n (i+1+1) with
     | bad j=>rw [h8] at hp;exact .cons h0 (.cons hm (.cons hc hp (ak _)) (ak _)) (by dsimp only;omega)
     | ok x j =>
      rw [h8] at hp;obtain ⟨hj,hij,hr⟩:=hp;simp only
      unfold bJ
      cases h9:bH L [44] j with
      | false =>
       rw [ai (by decide)]
       exact .cons h0 (.cons hm (.cons hc (hr.fl (.now (gJ size hL (by decide) _ _ h9))) (ak _)) (ak _)) (by dsimp only;omega)
      | true =>
       have Lv:=bR h9;rw [au rfl];simp only;have dU:=fG size hL (by decide) (.m .expr :: .word [41] :: .m .fin :: rest) (⟨jL,[],tf L size i,[x],tf L size (i+1+1)⟩ :: T :: O) h9;have he:=rE size hL (IH.expr 0 (j+1) (by omega) Lv (ak _)) ⟨jL,[],tf L size i,[x],tf L size (i+1+1)⟩ (T :: O) (.word [41] :: .m .fin :: rest) (show ¬ jL=dG by decide)
       cases h10:expr L n 0 (j+1) with
       | bad k=>rw [h10] at he;exact .cons h0 (.cons hm (.cons hc (hr.fl (.cons dU he (ak _))) (ak _)) (ak _)) (by dsimp only;omega)
       | ok e k =>
        rw [h10] at he;obtain ⟨hk,hjk,hr2⟩:=he;simp only
        cases h11:bH L [41] k with
        | false =>
         rw [ai (by decide)]
         exact .cons h0 (.cons hm (.cons hc (hr.fl (.cons dU (hr2.fl (.now (gJ size hL (by decide) _ _ h11))) (ak _))) (ak _)) (ak _)) (by dsimp only;omega)
        | true =>
         have WU:=bR h11;rw [au rfl];have Df:=fG size hL (by decide) (.m .fin :: rest) (⟨jL,[],tf L size i,[x,e],tf L size (j+1)⟩ :: T :: O) h11;have hf:=iN size rest jL [] (tf L size i) (tf L size (j+1)) [x,e] T O (by decide) (dW k) WU;refine ⟨WU,by omega,?_⟩;rw [fJ hlt] at h0 hm hc hr dU hr2 Df hf ⊢
         exact .cons h0 (.cons hm (.cons hc (hr.trans (.cons dU (hr2.trans (.cons Df (.one hf) (ak _))) (ak _))) (ak _)) (ak _)) (by dsimp only;omega)
    ·rw [ai h7] at hc ⊢
     have hco:=E8 size hL (i:=i+1+1) .expr (.word [41] :: .m .fin :: rest) (⟨mW,dx L i,tf L size i,[],0⟩ :: T :: O)
     cases h8:bH L [41] (i+1+1) with
     | true =>
      have Lu:=bR h8;rw [au rfl];rw [h8,au rfl] at hco;have hw:=fG size hL (by decide) (.m .fin :: rest) (⟨mW,dx L i,tf L size i,[],0⟩ :: T :: O) h8;have hf:=iN size rest mW (dx L i) (tf L size i) 0 [] T O (by decide) (dW (i+1+1)) Lu;refine ⟨Lu,by omega,?_⟩;rw [fJ hlt] at h0 hm hc hco hw hf ⊢
      exact .cons h0 (.cons hm (.cons hc (.cons hco (.cons hw (.one hf) (ak _)) (ak _)) (ak _)) (ak _)) (by dsimp only;omega)
     | false =>
      rw [ai (by decide)];rw [h8,ai (by decide)] at hco;have ha:=IH.args (i+1+1) [] (by omega) BJ ⟨mW,dx L i,tf L size i,[],0⟩ (T :: O) (.m .fin :: rest) rfl (show ¬ mW=dG by decide)
      cases h9:args L n (i+1+1) [] with
      | bad k=>rw [h9] at ha;exact .cons h0 (.cons hm (.cons hc (.cons hco ha (ak _)) (ak _)) (ak _)) (by dsimp only;omega)
      | ok l k =>
       rw [h9] at ha;obtain ⟨q1,q2,kf,q3⟩:=ha;have hf:=iN size rest mW (dx L i) (tf L size i) kf l T O (by decide) (by omega) q1;refine ⟨q1,by omega,?_⟩;rw [fJ hlt] at h0 hm hc hco q3 hf ⊢
       exact .cons h0 (.cons hm (.cons hc (.cons hco (q3.trans (.one hf)) (ak _)) (ak _)) (ak _)) (by dsimp only;omega)
theorem Dh:∀ n,Be L size n
 | 0=>⟨fun _ _ h=>by omega,fun _ _ _ _ h=>by omega,fun _ h=>by omega,fun _ _ _ h=>by omega,fun _ h=>by omega,fun _ _ h=>by omega⟩
 | n+1 =>
  have IH:=Dh n
  ⟨fun than i h hi ht=>Rk size IH than i h hi ht,fun than f a i h hi h0 ht=>Oq size hL IH than f a i h hi h0 ht,fun i h hi=>UX size hL IH i h hi,
   fun f a i h hi _=>Ou size hL IH f a i h hi,fun i h hi=>Ju size hL IH i h hi,fun i acc h hi=>Rm size hL IH i acc h hi⟩
end
section
variable {L:List bn} (size:Nat)
def Rn (L:List bn) (size:Nat) (k:BV) (b:Int) (i:Nat) (acc:List Pt) (x:Out (List Pt)):Prop:=∀ (o:Open) (O:List Open) (rest:List Stp),o.kids=acc→bH L [125] i=false→match x with
 | .ok l j=>j≤L.length∧i<j∧bH L [125] j=true∧∃ kf,To L size 0 ⟨i,.m k :: .more k :: .word [125] :: rest,o :: O⟩ ⟨j,.word [125] :: rest,{ o with kids:=l,kf:=kf } :: O⟩
 | .bad j=>Fl L size b ⟨i,.m k :: .more k :: .word [125] :: rest,o :: O⟩ j
def Nh (L:List bn) (size:Nat) (b:Int) (i:Nat) (x:Out Pt):Prop:=∀ (T:Open) (O:List Open) (rest:List Stp),bH L kI i=true→match x with
 | .ok p j=>j≤L.length∧i<j∧To L size (-60) ⟨i,.word kI :: .m .expr :: .m .block :: .m .otherwise :: .m .fin :: rest,⟨kI,[],tf L size i,[],0⟩ :: T :: O⟩ ⟨j,rest,T.add p (tf L size i) :: O⟩
 | .bad j=>Fl L size b ⟨i,.word kI :: .m .expr :: .m .block :: .m .otherwise :: .m .fin :: rest,⟨kI,[],tf L size i,[],0⟩ :: T :: O⟩ j
structure GoodS (L:List bn) (size n:Nat):Prop where
 block:∀ i,8*(L.length - i)+1≤n→i≤L.length→wm L size 60 10 [.m .block] i (block L n i)
 stmts:∀ i acc,8*(L.length - i)+5≤n→i≤L.length→Rn L size .stmt 80 i acc (stmts L n i acc)
 branch:∀ i,8*(L.length - i)+1≤n→i≤L.length→Nh L size 10 i (branch L n i)
 stmt:∀ i,8*(L.length - i)+4≤n→i≤L.length→wm L size 50 60 [.m .stmt] i (stmt L n i)
theorem kW (i:Nat) (h:i≤L.length):i+bE L i≤L.length:=by
 unfold bE
 have h1:((L.drop i).takeWhile (fun t=>t.w==5)).length≤(L.drop i).length:=(List.takeWhile_sublist _).length_le;rw [bC] at h1
 omega
theorem Ow {i:Nat} (h:bT L 5 i=false):bE L i=0:=by
 unfold bE
 by_cases hi:i<L.length
 ·unfold bT at h
  rw [aB hi] at h;rw [bY hi,bK];dsimp only at h ⊢;rw [h];rfl
 ·rw [gy (by omega)];rfl
theorem Ro {i:Nat} (h:bT L 5 i=true):0<bE L i:=by
 unfold bE
 have hi:=gL h
 unfold bT at h
 rw [aB hi] at h;rw [bY hi,bK];dsimp only at h ⊢;rw [h];simp
variable (hL:∀ t∈L,vN t)
include hL
theorem Di {i:Nat} (k:BV) (R:List Stp) (O:List Open):fA L size ⟨i,.lines k :: R,O⟩ =
  if bH L [125] (i+bE L i) then .go ⟨i+bE L i,R,O⟩ else .go ⟨i+bE L i,.m k :: .more k :: R,O⟩:=by
 show exec L size (.lines k) ⟨i,R,O⟩=_
 simp only [exec];rw [gN size hL (by decide)];rfl
theorem U0 {i:Nat} (k:BV) (R:List Stp) (O:List Open):fA L size ⟨i,.more k :: R,O⟩=if bT L 5 i then .go ⟨i,.lines k :: R,O⟩ else .go ⟨i,R,O⟩:=by
 show exec L size (.more k) ⟨i,R,O⟩=_
 simp only [exec];rw [vP size hL (by decide)];rfl
theorem Ni {j:Nat} (k:BV) (rest:List Stp) (O:List Open) :
  (bH L [125] (j+bE L j)=true∧To L size 2 ⟨j,.more k :: .word [125] :: rest,O⟩ ⟨j+bE L j,.word [125] :: rest,O⟩) ∨
  (bH L [125] (j+bE L j)=false∧bE L j=0∧Fl L size 1 ⟨j,.more k :: .word [125] :: rest,O⟩ j) ∨
  (bH L [125] (j+bE L j)=false∧0<bE L j∧To L size (-98) ⟨j,.more k :: .word [125] :: rest,O⟩ ⟨j+bE L j,.m k :: .more k :: .word [125] :: rest,O⟩):=by
 have hm:=U0 size hL (i:=j) k (.word [125] :: rest) O;have hl:=Di size hL (i:=j) k (.word [125] :: rest) O
 cases h1:bT L 5 j with
 | false =>
  rw [h1,ai (by decide)] at hm;rw [Ow h1,bV]
  cases h2:bH L [125] j with
  | true=>exact .inl ⟨rfl,.last hm (by dsimp only;omega)⟩
  | false=>exact .inr (.inl ⟨rfl,rfl,.cons hm (.now (gJ size hL (by decide) _ _ h2)) (by dsimp only;omega)⟩)
 | true =>
  have hp:=Ro h1;rw [h1,au rfl] at hm
  cases h2:bH L [125] (j+bE L j) with
  | true =>
   rw [h2,au rfl] at hl
   exact .inl ⟨rfl,.cons hm (.one hl) (by dsimp only;omega)⟩
  | false =>
   rw [h2,ai (by decide)] at hl
   exact .inr (.inr ⟨rfl,hp,.cons hm (.one hl) (by dsimp only;omega)⟩)
theorem Ox {n:Nat} (IH:GoodS L size n) (i:Nat) (acc:List Pt) (hn:8*(L.length - i)+5≤n+1) (hi:i≤L.length):Rn L size .stmt 80 i acc (stmts L (n+1) i acc):=by
 rintro o O rest rfl hb;simp only [stmts,hb,Bool.false_eq_true,if_false];have hp:=IH.stmt i (by omega) hi o O (.more .stmt :: .word [125] :: rest)
 cases h1:stmt L n i with
 | bad j=>rw [h1] at hp;exact hp.mono (by omega)
 | ok p j =>
  rw [h1] at hp;obtain ⟨hj,hij,hr⟩:=hp;simp only [Out.next];have hle:=kW j hj
  rcases Ni size hL (j:=j) .stmt rest (o.add p (tf L size i) :: O) with ⟨q1,q2⟩|⟨q1,q0,q2⟩|⟨q1,q0,q2⟩
  ·have hs:¬ (bE L j=0∧bH L [125] j=false):=by
    rintro ⟨a,b⟩;rw [a,bV,b] at q1;cases q1
   rw [ai hs];obtain ⟨m,hm⟩:∃ m,n=m+1:=⟨n - 1,by omega⟩;rw [hm];simp only [stmts,q1,if_true]
   exact ⟨hle,by omega,trivial,tf L size i,(hr.trans q2).mono (by omega)⟩
  ·rw [q0,bV] at q1
   rw [au ⟨q0,q1⟩]
   exact (hr.fl q2).mono (by omega)
  ·rw [ai (by omega)]
   have hk:=IH.stmts (j+bE L j) (o.kids++[p]) (by omega) hle (o.add p (tf L size i)) O rest rfl q1
   cases h2:stmts L n (j+bE L j) (o.kids++[p]) with
   | bad k=>rw [h2] at hk;exact (hr.fl (q2.fl hk)).mono (by omega)
   | ok l k =>
    rw [h2] at hk;obtain ⟨r1,r2,r3,kf,r4⟩:=hk
    exact ⟨r1,by omega,r3,kf,(hr.trans (q2.trans r4)).mono (by omega)⟩
theorem Oy {n:Nat} (IH:GoodS L size n) (i:Nat) (hn:8*(L.length - i)+1≤n+1):wm L size 60 10 [.m .block] i (block L (n+1) i):=by
 intro T O rest;have h0:=wZ size hL (k:=.block) (kd:=ou) (l:=[.word [123],.lines .stmt,.word [125],.m .fin]) (fun s=>rfl) (i:=i) rest (T :: O);simp only [block]
 unfold bJ
 cases h1:bH L [123] i with
 | false =>
  rw [ai (by decide)]
  exact .cons h0 (.now (gJ size hL (by decide) _ _ h1)) (by dsimp only;omega)
 | true =>
  have hlt:=bR h1;rw [au rfl];simp only [Out.next];have hw:=fG size hL (by decide) (.lines .stmt :: .word [125] :: .m .fin :: rest) (⟨ou,[],tf L size i,[],0⟩ :: T :: O) h1;have hl:=Di size hL (i:=i+1) .stmt (.word [125] :: .m .fin :: rest) (⟨ou,[],tf L size i,[],0⟩ :: T :: O);have hle:=kW (i+1) hlt;obtain ⟨m,hm⟩:∃ m,n=m+1:=⟨n - 1,by omega⟩
  cases h2:bH L [125] (i+1+bE L (i+1)) with
  | true =>
   have hlt2:=bR h2;rw [h2,au rfl] at hl;rw [hm];simp only [stmts,h2,if_true];have hw2:=fG size hL (by decide) (.m .fin :: rest) (⟨ou,[],tf L size i,[],0⟩ :: T :: O) h2;have hf:=iN size rest ou [] (tf L size i) 0 [] T O (by decide) (dW (i+1+bE L (i+1))) hlt2;refine ⟨hlt2,by omega,?_⟩;rw [fJ hlt] at h0 hw hl hw2 hf ⊢
   exact .cons h0 (.cons hw (.cons hl (.cons hw2 (.one hf) (ak _)) (ak _)) (ak _)) (by dsimp only;omega)
  | false =>
   rw [h2,ai (by decide)] at hl;have hk:=IH.stmts (i+1+bE L (i+1)) [] (by omega) hle ⟨ou,[],tf L size i,[],0⟩ (T :: O) (.m .fin :: rest) rfl h2
   cases h3:stmts L n (i+1+bE L (i+1)) [] with
   | bad k=>rw [h3] at hk;exact .cons h0 (.cons hw (.cons hl hk (ak _)) (ak _)) (by dsimp only;omega)
   | ok l k =>
    rw [h3] at hk;obtain ⟨r1,r2,r3,kf,r4⟩:=hk;have hlt3:=bR r3;simp only;rw [r3,au rfl];have hw2:=fG size hL (by decide) (.m .fin :: rest) (⟨ou,[],tf L size i,l,kf⟩ :: T :: O) r3;have hf:=iN size rest ou [] (tf L size i) kf l T O (by decide) (dW k) hlt3;refine ⟨hlt3,by omega,?_⟩;rw [fJ hlt] at h0 hw hl r4 hw2 hf ⊢
    exact .cons h0 (.cons hw (.cons hl (r4.trans (.cons hw2 (.one hf) (ak _))) (ak _)) (ak _)) (by dsimp only;omega)
theorem GM {i:Nat} (R:List Stp) (O:List Open):fA L size ⟨i,.m .otherwise :: R,O⟩=if bH L mV i then .go ⟨i,.word mV :: .m .iV :: R,O⟩ else .go ⟨i,R,O⟩:=by
 show bD L size .otherwise ⟨i,R,O⟩=_
 simp only [bD];rw [gN size hL (by decide)];rfl
theorem U1 {i:Nat} (R:List Stp) (O:List Open):fA L size ⟨i,.m .iV :: R,O⟩ =
  if bH L kI i then .go ⟨i,.word kI :: .m .expr :: .m .block :: .m .otherwise :: .m .fin :: R,⟨kI,[],tf L size i,[],0⟩ :: O⟩ else fA L size ⟨i,.m .block :: R,O⟩:=by
 show bD L size .iV ⟨i,R,O⟩=_
 simp only [bD];rw [gN size hL (by decide)];rfl
theorem Lx {n:Nat} (IH:GoodS L size n) (i:Nat) (hn:8*(L.length - i)+1≤n+1):Nh L size 10 i (branch L (n+1) i):=by
 intro T O rest h1;have hlt:=bR h1;simp only [branch]
 unfold bJ
 rw [h1,au rfl];simp only [Out.next];have hw:=fG size hL (by decide) (.m .expr :: .m .block :: .m .otherwise :: .m .fin :: rest) (⟨kI,[],tf L size i,[],0⟩ :: T :: O) h1;have he:=rE size hL ((Dh size hL n).expr 0 (i+1) (by omega) hlt (ak _)) ⟨kI,[],tf L size i,[],0⟩ (T :: O) (.m .block :: .m .otherwise :: .m .fin :: rest) (show ¬ kI=dG by decide)
 cases h2:expr L n 0 (i+1) with
 | bad j=>rw [h2] at he;exact .cons hw he (by dsimp only;omega)
 | ok e j =>
  rw [h2] at he;obtain ⟨hj,hij,hr⟩:=he;simp only;have hb:=IH.block j (by omega) hj (Open.add ⟨kI,[],tf L size i,[],0⟩ e (tf L size (i+1))) (T :: O) (.m .otherwise :: .m .fin :: rest)
  cases h3:block L n j with
  | bad k=>rw [h3] at hb;exact .cons hw (hr.fl hb) (by dsimp only;omega)
  | ok b k =>
   rw [h3] at hb;obtain ⟨hk,hjk,hr2⟩:=hb;simp only;have ho:=GM size hL (i:=k) (.m .fin :: rest) (⟨kI,[],tf L size i,[e,b],tf L size j⟩ :: T :: O)
   cases h4:bH L mV k with
   | false =>
    rw [h4,ai (by decide)] at ho;rw [ai (by decide)];have hf:=iN size rest kI [] (tf L size i) (tf L size j) [e,b] T O (by decide) (by omega) hk;refine ⟨hk,by omega,?_⟩;rw [fJ hlt] at hw hr hr2 ho hf ⊢
    exact .cons hw (hr.trans (hr2.trans (.cons ho (.one hf) (ak _)))) (by dsimp only;omega)
   | true =>
    have EG:=bR h4;rw [h4,au rfl] at ho;rw [au rfl];have hw4:=fG size hL (by decide) (.m .iV :: .m .fin :: rest) (⟨kI,[],tf L size i,[e,b],tf L size j⟩ :: T :: O) h4;have Rp:=U1 size hL (i:=k+1) (.m .fin :: rest) (⟨kI,[],tf L size i,[e,b],tf L size j⟩ :: T :: O)
    cases h5:bH L kI (k+1) with
    | true =>
     rw [h5,au rfl] at Rp;rw [au rfl];have hq:=IH.branch (k+1) (by omega) EG ⟨kI,[],tf L size i,[e,b],tf L size j⟩ (T :: O) (.m .fin :: rest) h5
     cases h6:branch L n (k+1) with
     | bad m=>rw [h6] at hq;exact .cons hw (hr.fl (hr2.fl (.cons ho (.cons hw4 (.cons Rp hq (ak _)) (ak _)) (ak _)))) (by dsimp only;omega)
     | ok x m =>
      rw [h6] at hq;obtain ⟨q1,q2,q3⟩:=hq;have hf:=iN size rest kI [] (tf L size i) (tf L size (k+1)) [e,b,x] T O (by decide) (by omega) q1;refine ⟨q1,by omega,?_⟩;rw [fJ hlt] at hw hr hr2 ho hw4 Rp q3 hf ⊢
      exact .cons hw (hr.trans (hr2.trans (.cons ho (.cons hw4 (.cons Rp (q3.trans (.one hf)) (ak _)) (ak _)) (ak _)))) (by dsimp only;omega)
    | false =>
     rw [h5,ai (by decide)] at Rp;rw [ai (by decide)];have hq:=IH.block (k+1) (by omega) EG ⟨kI,[],tf L size i,[e,b],tf L size j⟩ (T :: O) (.m .fin :: rest)
     have same:∀ s:St,fA L size ⟨k+1,.m .block :: .m .fin :: rest,⟨kI,[],tf L size i,[e,b],tf L size j⟩ :: T :: O⟩=.go s→fA L size ⟨k+1,.m .iV :: .m .fin :: rest,⟨kI,[],tf L size i,[e,b],tf L size j⟩ :: T :: O⟩=.go s:=fun s h=>Rp.trans h
     have h0:=wZ size hL (k:=.block) (kd:=ou) (l:=[.word [123],.lines .stmt,.word [125],.m .fin]) (fun s=>rfl) (i:=k+1) (.m .fin :: rest) (⟨kI,[],tf L size i,[e,b],tf L size j⟩ :: T :: O);have aiH:=same _ h0
     cases h6:block L n (k+1) with
     | bad m =>
      rw [h6] at hq;obtain ⟨c,q1,s',q2,q3⟩:=hq
      have hne:fA L size ⟨k+1,.m .block :: .m .fin :: rest,⟨kI,[],tf L size i,[e,b],tf L size j⟩ :: T :: O⟩≠.wrong:=by rw [h0];exact fun h=>nomatch h
      have hq':Fl L size 10 ⟨k+1,.m .iV :: .m .fin :: rest,⟨kI,[],tf L size i,[e,b],tf L size j⟩ :: T :: O⟩ m:=by
       cases q2 with
       | refl=>exact absurd q3.1 hne
       | step g1 g2=>exact ⟨_,q1,s',.step (same _ g1) g2,q3⟩
      exact .cons hw (hr.fl (hr2.fl (.cons ho (.cons hw4 hq' (ak _)) (ak _)))) (by dsimp only;omega)
     | ok x m =>
      rw [h6] at hq;obtain ⟨q1,q2,c,q3,q4⟩:=hq
      have hq':To L size (-60) ⟨k+1,.m .iV :: .m .fin :: rest,⟨kI,[],tf L size i,[e,b],tf L size j⟩ :: T :: O⟩ ⟨m,.m .fin :: rest,Open.add ⟨kI,[],tf L size i,[e,b],tf L size j⟩ x (tf L size (k+1)) :: T :: O⟩:=by
       generalize hs2:(⟨m,.m .fin :: rest,Open.add ⟨kI,[],tf L size i,[e,b],tf L size j⟩ x (tf L size (k+1)) :: T :: O⟩:St)=s2 at q4
       cases q4 with
       | refl=>exact absurd (congrArg St.i hs2) (by dsimp only;omega)
       | step g1 g2=>exact ⟨_,by rw [hs2] at q3;exact q3,.step (same _ g1) g2⟩
      have hf:=iN size rest kI [] (tf L size i) (tf L size (k+1)) [e,b,x] T O (by decide) (by omega) q1;refine ⟨q1,by omega,?_⟩;rw [fJ hlt] at hw hr hr2 ho hw4 hq' hf ⊢
      exact .cons hw (hr.trans (hr2.trans (.cons ho (.cons hw4 (hq'.trans (.one hf)) (ak _)) (ak _)))) (by dsimp only;omega)
end
section
variable {L:List bn} (size:Nat) (hL:∀ t∈L,vN t)
include hL
theorem zf (k:BV) (hk:∀ (i:Nat) (R:List Stp) (O:List Open),bH L jd i=true→fA L size ⟨i,.m k :: R,O⟩=.go ⟨i,.word jd :: .m .name :: .m .typeOf :: .m .fin :: R,⟨jd,[],tf L size i,[],0⟩ :: O⟩)
  (n i:Nat) (hn:2*(L.length - i)+1≤n) (h1:bH L jd i=true):wm L size 50 60 [.m k] i (iU L n i):=by
 intro T O rest;have hlt:=bR h1;have h0:=hk i rest (T :: O) h1
 unfold iU bJ
 rw [h1,au rfl];simp only [Out.next];have hw:=fG size hL (by decide) (.m .name :: .m .typeOf :: .m .fin :: rest) (⟨jd,[],tf L size i,[],0⟩ :: T :: O) h1
 unfold gG
 cases h4:bT L 0 (i+1) with
 | true =>
  have EG:=gL h4;rw [au rfl];have hm:=uE size hL (.m .typeOf :: .m .fin :: rest) ⟨jd,[],tf L size i,[],0⟩ (T :: O) h4;simp only;have hr:=kZ size hL n (i+1+1) (by omega) EG ⟨jd,dx L (i+1),tf L size i,[],0⟩ (T :: O) (.m .fin :: rest)
  cases h2:typed L n (i+1+1) with
  | ok p j =>
   rw [h2] at hr;obtain ⟨hj,hij,hr⟩:=hr;have hf:=iN size rest jd (dx L (i+1)) (tf L size i) (tf L size (i+1+1)) [p] T O (by decide) (by omega) hj;refine ⟨hj,by omega,?_⟩;rw [fJ hlt] at h0 hw hm hr hf ⊢
   exact .cons h0 (.cons hw (.cons hm (hr.trans (.one hf)) (ak _)) (ak _)) (by dsimp only;omega)
  | bad j =>
   rw [h2] at hr
   exact .cons h0 (.cons hw (.cons hm hr (ak _)) (ak _)) (by dsimp only;omega)
 | false =>
  rw [ai (by decide)]
  exact .cons h0 (.cons hw (.now (nT size hL _ _ h4)) (ak _)) (by dsimp only;omega)
theorem xg {i:Nat} (R:List Stp) (O:List Open):fA L size ⟨i,.m .stmt :: R,O⟩ =
  if bH L jd i then .go ⟨i,.word jd :: .m .name :: .m .typeOf :: .m .fin :: R,⟨jd,[],tf L size i,[],0⟩ :: O⟩
  else if bH L dL i then .go ⟨i,.word dL :: .m .returned :: .m .fin :: R,⟨dL,[],tf L size i,[],0⟩ :: O⟩
  else if bH L kI i then .go ⟨i,.word kI :: .m .expr :: .m .block :: .m .otherwise :: .m .fin :: R,⟨kI,[],tf L size i,[],0⟩ :: O⟩
  else if bH L lI i then .go ⟨i,.word lI :: .m .expr :: .m .block :: .m .fin :: R,⟨lI,[],tf L size i,[],0⟩ :: O⟩
  else if bH L [123] i then fA L size ⟨i,.m .block :: R,O⟩
  else .go ⟨i,.m .expr :: .m .assigned :: .m .fin :: R,⟨vK,[],tf L size i,[],0⟩ :: O⟩:=by
 show bD L size .stmt ⟨i,R,O⟩=_
 simp only [bD];rw [gN size hL (by decide),gN size hL (by decide),gN size hL (by decide),gN size hL (by decide),gN size hL (by decide)];rfl
theorem Jv {i:Nat} (R:List Stp) (O:List Open):fA L size ⟨i,.m .returned :: R,O⟩=if bT L 5 i=false∧bH L [125] i=false then .go ⟨i,.m .pre :: .m .between :: R,O⟩ else .go ⟨i,R,O⟩:=by
 show bD L size .returned ⟨i,R,O⟩=_
 simp only [bD];rw [gN size hL (by decide),vP size hL (by decide)];rfl
theorem Jw {i:Nat} (R:List Stp) (k t:By) (f kf:Int) (ks:List Pt) (O:List Open):fA L size ⟨i,.m .assigned :: R,⟨k,t,f,ks,kf⟩ :: O⟩ =
  if bH L [61] i then .go ⟨i+1,.m .pre :: .m .between :: R,⟨pU,t,f,ks,kf⟩ :: O⟩
  else if bH L [58,61] i then .go ⟨i+1,.m .pre :: .m .between :: R,⟨pV,t,f,ks,kf⟩ :: O⟩
  else .go ⟨i,R,⟨k,t,f,ks,kf⟩ :: O⟩:=by
 show bD L size .assigned ⟨i,R,⟨k,t,f,ks,kf⟩ :: O⟩=_
 simp only [bD];rw [gN size hL (by decide),gN size hL (by decide)];rfl
omit hL in
theorem Oz {a b:Int} {k k':BV} {i:Nat} {o:Out Pt} (h:wm L size a b [.m k] i o) (he:∀ R O,fA L size ⟨i,.m k' :: R,O⟩=fA L size ⟨i,.m k :: R,O⟩):wm L size a b [.m k'] i o:=by
 intro T O rest;have h1:=h T O rest;have h2:=he rest (T :: O)
 cases o with
 | ok p j =>
  obtain ⟨q1,q2,c,q3,q4⟩:=h1;refine ⟨q1,q2,c,q3,?_⟩;generalize hs2:(⟨j,rest,T.add p (tf L size i) :: O⟩:St)=s2 at q4
  cases q4 with
  | refl=>exact absurd (congrArg St.i hs2) (by dsimp only [bI,fw];omega)
  | step g1 g2=>exact .step (h2.trans g1) g2
 | bad j =>
  obtain ⟨c,q1,s',q2,q3⟩:=h1
  cases q2 with
  | refl=>exact ⟨c,q1,_,.refl _ _,h2.trans q3.1,q3.2⟩
  | step g1 g2=>exact ⟨_,q1,s',.step (h2.trans g1) g2,q3⟩
theorem U2 {n:Nat} (i:Nat) (hn:8*(L.length - i)+4≤n+1) (h1:bH L dL i=true) (h2:bH L jd i=false):wm L size 50 60 [.m .stmt] i (if bT L 5 (i+1)∨bH L [125] (i+1) then T.part L dL [] (bQ L i) [] (i+1) else (expr L n 0 (i+1)).next fun e j=>T.part L dL [] (bQ L i) [e] j):=by
 intro T O rest;have hlt:=bR h1;have h0:=xg size hL (i:=i) rest (T :: O);rw [h2,ai (by decide),h1,au rfl] at h0;have hw:=fG size hL (by decide) (.m .returned :: .m .fin :: rest) (⟨dL,[],tf L size i,[],0⟩ :: T :: O) h1;have hr:=Jv size hL (i:=i+1) (.m .fin :: rest) (⟨dL,[],tf L size i,[],0⟩ :: T :: O)
 by_cases h3:bT L 5 (i+1)=true∨bH L [125] (i+1)=true
 ·rw [au h3]
  rw [ai (by rintro ⟨a,b⟩;rw [a,b] at h3;rcases h3 with h3|h3 <;> cases h3)] at hr;have hf:=iN size rest dL [] (tf L size i) 0 [] T O (by decide) (dW i) hlt;refine ⟨hlt,ek _,?_⟩;rw [fJ hlt] at h0 hw hr hf ⊢
  exact .cons h0 (.cons hw (.cons hr (.one hf) (ak _)) (ak _)) (by dsimp only;omega)
 ·rw [ai h3]
  rw [au (by
   constructor
   ·cases h:bT L 5 (i+1) with
    | false=>rfl
    | true=>exact absurd (.inl h) h3
   ·cases h:bH L [125] (i+1) with
    | false=>rfl
    | true=>exact absurd (.inr h) h3)] at hr
  have he:=xc size hL ((Dh size hL n).expr 0 (i+1) (by omega) hlt (ak _)) ⟨dL,[],tf L size i,[],0⟩ (T :: O) (.m .fin :: rest) (show ¬ dL=dG by decide)
  cases h4:expr L n 0 (i+1) with
  | bad j=>rw [h4] at he;exact .cons h0 (.cons hw (.cons hr he (ak _)) (ak _)) (by dsimp only;omega)
  | ok e j =>
   rw [h4] at he;obtain ⟨hj,hij,hx⟩:=he;have hf:=iN size rest dL [] (tf L size i) (tf L size (i+1)) [e] T O (by decide) (by omega) hj;refine ⟨hj,by omega,?_⟩;rw [fJ hlt] at h0 hw hr hx hf ⊢
   exact .cons h0 (.cons hw (.cons hr (hx.trans (.one hf)) (ak _)) (ak _)) (by dsimp only;omega)
theorem Rq {n:Nat} (IH:GoodS L size n) (i:Nat) (hn:8*(L.length - i)+4≤n+1) (hi:i≤L.length):wm L size 50 60 [.m .stmt] i (stmt L (n+1) i):=by
 simp only [stmt]
 by_cases h1:bH L jd i=true
 ·rw [au h1]
  exact zf size hL .stmt (fun i R O h=>by rw [xg size hL,h,au rfl]) n i (by omega) h1
 rw [ai h1]
 have WV:bH L jd i=false:=by simpa using h1
 by_cases h2:bH L kI i=true
 ·rw [au h2]
  have hlt:=bR h2;intro T O rest;have h0:=xg size hL (i:=i) rest (T :: O);rw [WV,ai (by decide),rF h2 (by decide),ai (by decide),h2,au rfl] at h0;have hb:=IH.branch i (by omega) hi T O rest h2
  cases h3:branch L n i with
  | bad j=>rw [h3] at hb;exact .cons h0 hb (by dsimp only;omega)
  | ok p j =>
   rw [h3] at hb;obtain ⟨q1,q2,q3⟩:=hb
   exact ⟨q1,q2,.cons h0 q3 (by dsimp only;omega)⟩
 rw [ai h2]
 have h2f:bH L kI i=false:=by simpa using h2
 by_cases h3:bH L [123] i=true
 ·rw [au h3]
  have hb:=Oz size (k':=.stmt) (IH.block i (by omega) hi) (fun R O=>by
   rw [xg size hL,WV,ai (by decide),rF h3 (by decide),ai (by decide),h2f,ai (by decide),rF h3 (by decide),ai (by decide),h3,au rfl])
  intro T O rest;have hb2:=hb T O rest
  cases h4:block L n i with
  | bad j=>rw [h4] at hb2;exact hb2.mono (by omega)
  | ok p j =>
   rw [h4] at hb2
   exact ⟨hb2.1,hb2.2.1,hb2.2.2.mono (by omega)⟩
 rw [ai h3]
 have h3f:bH L [123] i=false:=by simpa using h3
 by_cases h4:bH L lI i=true
 ·rw [au h4]
  have hlt:=bR h4;intro T O rest;have h0:=xg size hL (i:=i) rest (T :: O);rw [WV,ai (by decide),rF h4 (by decide),ai (by decide),h2f,ai (by decide),h4,au rfl] at h0;have hw:=fG size hL (by decide) (.m .expr :: .m .block :: .m .fin :: rest) (⟨lI,[],tf L size i,[],0⟩ :: T :: O) h4;have he:=rE size hL ((Dh size hL n).expr 0 (i+1) (by omega) hlt (ak _)) ⟨lI,[],tf L size i,[],0⟩ (T :: O) (.m .block :: .m .fin :: rest) (show ¬ lI=dG by decide)
  cases h5:expr L n 0 (i+1) with
  | bad j=>rw [h5] at he;exact .cons h0 (.cons hw he (ak _)) (by dsimp only;omega)
  | ok e j =>
   rw [h5] at he;obtain ⟨hj,hij,hr⟩:=he;simp only [Out.next];have hb:=IH.block j (by omega) hj (Open.add ⟨lI,[],tf L size i,[],0⟩ e (tf L size (i+1))) (T :: O) (.m .fin :: rest)
   cases h6:block L n j with
   | bad k=>rw [h6] at hb;exact .cons h0 (.cons hw (hr.fl hb) (ak _)) (by dsimp only;omega)
   | ok b k =>
    rw [h6] at hb;obtain ⟨hk,hjk,hr2⟩:=hb;have hf:=iN size rest lI [] (tf L size i) (tf L size j) [e,b] T O (by decide) (by omega) hk;refine ⟨hk,by omega,?_⟩;rw [fJ hlt] at h0 hw hr hr2 hf ⊢
    exact .cons h0 (.cons hw (hr.trans (hr2.trans (.one hf))) (ak _)) (by dsimp only;omega)
 rw [ai h4]
 have h4f:bH L lI i=false:=by simpa using h4
 by_cases h5:bH L dL i=true
 ·rw [au h5];exact U2 size hL i hn h5 WV
 rw [ai h5]
 have h5f:bH L dL i=false:=by simpa using h5
 intro T O rest;have h0:=xg size hL (i:=i) rest (T :: O);rw [WV,ai (by decide),h5f,ai (by decide),h2f,ai (by decide),h4f,ai (by decide),h3f,ai (by decide)] at h0;have he:=rE size hL ((Dh size hL n).expr 0 i (by omega) hi (ak _)) ⟨vK,[],tf L size i,[],0⟩ (T :: O) (.m .assigned :: .m .fin :: rest) (show ¬ vK=dG by decide)
 cases h6:expr L n 0 i with
 | bad j=>rw [h6] at he;exact .cons h0 he (by dsimp only;omega)
 | ok a j =>
  rw [h6] at he;obtain ⟨hj,hij,hr⟩:=he;simp only [Out.next]
  have hlt:i<L.length:=by omega
  have ha:=Jw size hL (i:=j) (.m .fin :: rest) vK [] (tf L size i) (tf L size i) [a] (T :: O)
  cases h7:bH L [61] j with
  | true =>
   have QT:=bR h7;rw [h7,au rfl] at ha;rw [au rfl];have he2:=xc size hL ((Dh size hL n).expr 0 (j+1) (by omega) QT (ak _)) ⟨pU,[],tf L size i,[a],tf L size i⟩ (T :: O) (.m .fin :: rest) (show ¬ pU=dG by decide)
   cases h8:expr L n 0 (j+1) with
   | bad k=>rw [h8] at he2;exact .cons h0 (hr.fl (.cons ha he2 (ak _))) (by dsimp only;omega)
   | ok b k =>
    rw [h8] at he2;obtain ⟨hk,hjk,hr2⟩:=he2;have hf:=iN size rest pU [] (tf L size i) (tf L size (j+1)) [a,b] T O (by decide) (by omega) hk;refine ⟨hk,by omega,?_⟩;rw [fJ hlt] at h0 hr ha hr2 hf ⊢
    exact .cons h0 (hr.trans (.cons ha (hr2.trans (.one hf)) (ak _))) (by dsimp only;omega)
  | false =>
   rw [h7,ai (by decide)] at ha;rw [ai (by decide)]
   cases h8:bH L [58,61] j with
   | true =>
    have Lu:=bR h8;rw [h8,au rfl] at ha;rw [au rfl];have he2:=xc size hL ((Dh size hL n).expr 0 (j+1) (by omega) Lu (ak _)) ⟨pV,[],tf L size i,[a],tf L size i⟩ (T :: O) (.m .fin :: rest) (show ¬ pV=dG by decide)
    cases h9:expr L n 0 (j+1) with
    | bad k=>rw [h9] at he2;exact .cons h0 (hr.fl (.cons ha he2 (ak _))) (by dsimp only;omega)
    | ok b k =>
     rw [h9] at he2;obtain ⟨hk,hjk,hr2⟩:=he2;have hf:=iN size rest pV [] (tf L size i) (tf L size (j+1)) [a,b] T O (by decide) (by omega) hk;refine ⟨hk,by omega,?_⟩;rw [fJ hlt] at h0 hr ha hr2 hf ⊢
     exact .cons h0 (hr.trans (.cons ha (hr2.trans (.one hf)) (ak _))) (by dsimp only;omega)
   | false =>
    rw [h8,ai (by decide)] at ha;rw [ai (by decide)];have hf:=iN size rest vK [] (tf L size i) (tf L size i) [a] T O (by decide) (by omega) hj;refine ⟨hj,by omega,?_⟩;rw [fJ hlt] at h0 hr ha hf ⊢
    exact .cons h0 (hr.trans (.cons ha (.one hf) (ak _))) (by dsimp only;omega)
theorem WW:∀ n,GoodS L size n
 | 0=>⟨fun _ h=>by omega,fun _ _ h=>by omega,fun _ h=>by omega,fun _ h=>by omega⟩
 | n+1 =>
  have IH:=WW n
  ⟨fun i h _=>Oy size hL IH i h,fun i acc h hi=>Ox size hL IH i acc h hi,fun i h _=>Lx size hL IH i h,fun i h hi=>Rq size hL IH i h hi⟩
end
end K
end Go.Proofs.YtojoahlpgmnbnaaGreatDoor
