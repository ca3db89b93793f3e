/- What the claim needs of the texts KSimT, KBnd, KStp, KCatch, KRun, KTodo, KMap, KWith, QPlain, KFine, KText, KNn, KLeave. -/
import Derived.Test.YtojoahlpgmnbnaaGreatDoorUOOp
import Derived.Test.YtojoahlpgmnbnaaGreatDoorUO8
import Derived.Defers
import Derived.Recover
import Derived.Laws.Pointers
import Derived.Test.YtojoahlpgmnbnaaGreatDoorUO1
import Derived.Test.YtojoahlpgmnbnaaGreatDoorUO2
set_option maxRecDepth 20000
set_option maxHeartbeats 16000000
namespace Go.Proofs.YtojoahlpgmnbnaaGreatDoor
namespace K
open Go.Lib Go.Proofs.YtojoahlpgmnbnaaGreatDoor.U Go.Proofs.YtojoahlpgmnbnaaGreatDoor.S Go.Proofs.YtojoahlpgmnbnaaGreatDoor.T
section
variable {L:List aZ} (size:Nat) (hL:∀ t∈L,vB t)
theorem Ra (k:By):∀ l:List Pt,(.mk k [] (yE l) (vz l) l:Pt)=mG k l
 | []=>rfl
 | .mk a b c d e :: r=>by
  unfold mG yE vz
  first
   | (dsimp only;done)
   | (dsimp only
      rcases (Pt.mk a b c d e :: r).getLast? with _|⟨_,_,_,_,_⟩ <;> rfl)
theorem Gz {j:Nat} (R:List Stp) (kd:By) (f kf:Int) (ks:List Pt) (a:Open) (O:List Open) (h1:kd=eT∨kd=fJ) (h0:0<j) :
  fC L size ⟨j,.m .fin :: R,⟨kd,[],f,ks,kf⟩ :: a :: O⟩=.go ⟨j,R,a.add (mG kd ks) f :: O⟩:=by
 show Bq L size ⟨j,R,⟨kd,[],f,ks,kf⟩ :: a :: O⟩=_
 have h2:¬ kd=Ki:=by rcases h1 with h1|h1 <;> rw [h1] <;> decide
 unfold Bq
 dsimp only;rw [ai (by omega)];simp only [sF,Open.close,h2,h1,if_false,if_true,Ra];rfl
include hL
theorem CZ (m:Nat):∀ (n i:Nat) (o:Open) (O:List Open) (rest:List Stp),2*(L.length - i)+1≤m→L.length - i+1≤n→i≤L.length→match params L m n i o.kids with
  | .ok l j=>j≤L.length∧i<j∧∃ kf,To L size 0 ⟨i,.m .param :: .kK .param :: .word [41] :: rest,o :: O⟩ ⟨j,rest,{ o with kids:=l,kf:=kf } :: O⟩
  | .bad j=>Fl L size 50 ⟨i,.m .param :: .kK .param :: .word [41] :: rest,o :: O⟩ j
 | 0,i,o,O,rest,_,hn,_=>by omega
 | n+1,i,o,O,rest,hm,hn,hi=>by
  simp only [params];have hp:=ES size hL .param qZ (fun _=>rfl) (by decide) m i hm o O (.kK .param :: .word [41] :: rest)
  cases h1:param L m qZ i with
  | bad j=>rw [h1] at hp;exact hp.mono (by omega)
  | ok p j =>
   rw [h1] at hp;obtain ⟨hj,hij,hr⟩:=hp;simp only [Out.next];have hc:=Jf size hL (i:=j) .param (.word [41] :: rest) (o.add p (tf L size i) :: O)
   cases h2:bG L [41] j with
   | true =>
    have hlt:=bR h2;rw [ay rfl];rw [rA h2 (by decide),ai (by decide)] at hc;have hw:=fK size hL (by decide) rest (o.add p (tf L size i) :: O) h2
    exact ⟨hlt,by omega,tf L size i,(hr.trans (.cons hc (.one hw) (au _))).mono (by dsimp only;omega)⟩
   | false =>
    rw [ai (by decide)]
    unfold bI
    cases h3:bG L [44] j with
    | false =>
     rw [ai (by decide)];rw [h3,ai (by decide)] at hc
     exact (hr.fl (.cons hc (.now (gM size hL (by decide) _ _ h2)) (au _))).mono (by dsimp only;omega)
    | true =>
     have hlt:=bR h3;rw [ay rfl];rw [h3,ay rfl] at hc;simp only;have hw:=fK size hL (by decide) (.m .param :: .kK .param :: .word [41] :: rest) (o.add p (tf L size i) :: O) h3;have hq:=CZ m n (j+1) (o.add p (tf L size i)) O rest (by omega) (by omega) hlt;rw [show (o.add p (tf L size i)).kids=o.kids++[p] from rfl] at hq
     cases h4:params L m n (j+1) (o.kids++[p]) with
     | bad k=>rw [h4] at hq;exact (hr.fl (.cons hc (.cons hw hq (au _)) (au _))).mono (by dsimp only;omega)
     | ok l k =>
      rw [h4] at hq;obtain ⟨q1,q2,kf,q3⟩:=hq
      exact ⟨q1,by omega,kf,(hr.trans (.cons hc (.cons hw q3 (au _)) (au _))).mono (by dsimp only;omega)⟩
theorem C4 (m:Nat):∀ (n i:Nat) (o:Open) (O:List Open) (rest:List Stp),2*(L.length - i)+1≤m→L.length - i+2≤n→i≤L.length→bG L [125] i=false→match fields L m n i o.kids with
  | .ok l j=>j≤L.length∧i<j∧bG L [125] j=true∧∃ kf,To L size 0 ⟨i,.m .field :: .more .field :: .word [125] :: rest,o :: O⟩ ⟨j,.word [125] :: rest,{ o with kids:=l,kf:=kf } :: O⟩
  | .bad j=>Fl L size 50 ⟨i,.m .field :: .more .field :: .word [125] :: rest,o :: O⟩ j
 | 0,i,o,O,rest,_,hn,_,_=>by omega
 | n+1,i,o,O,rest,hm,hn,hi,hb=>by
  simp only [fields,hb,Bool.false_eq_true,if_false];have hp:=ES size hL .field jh (fun _=>rfl) (by decide) m i hm o O (.more .field :: .word [125] :: rest)
  cases h1:param L m jh i with
  | bad j=>rw [h1] at hp;exact hp.mono (by omega)
  | ok p j =>
   rw [h1] at hp;obtain ⟨hj,hij,hr⟩:=hp;simp only [Out.next];have hle:=kW j hj
   rcases MV size hL (j:=j) .field rest (o.add p (tf L size i) :: O) with ⟨q1,q2⟩|⟨q1,q0,q2⟩|⟨q1,q0,q2⟩
   ·have hs:¬ (bE L j=0∧bG L [125] j=false):=by
     rintro ⟨a,b⟩;rw [a,bS,b] at q1;cases q1
    rw [ai hs];obtain ⟨m',hm'⟩:∃ m,n=m+1:=⟨n - 1,by omega⟩;rw [hm'];simp only [fields,q1,if_true]
    exact ⟨hle,by omega,trivial,tf L size i,(hr.trans q2).mono (by omega)⟩
   ·rw [q0,bS] at q1
    rw [ay ⟨q0,q1⟩]
    exact (hr.fl q2).mono (by omega)
   ·rw [ai (by omega)]
    have hk:=C4 m n (j+bE L j) (o.add p (tf L size i)) O rest (by omega) (by omega) hle q1;rw [show (o.add p (tf L size i)).kids=o.kids++[p] from rfl] at hk
    cases h2:fields L m n (j+bE L j) (o.kids++[p]) with
    | bad k=>rw [h2] at hk;exact (hr.fl (q2.fl hk)).mono (by omega)
    | ok l k =>
     rw [h2] at hk;obtain ⟨r1,r2,r3,kf,r4⟩:=hk
     exact ⟨r1,by omega,r3,kf,(hr.trans (q2.trans r4)).mono (by omega)⟩
theorem Le (n i:Nat) (hn:8*L.length+10≤n) (h1:bG L gY i=true) (T:Open) (O:List Open) (rest:List Stp):match record L n i with
  | .ok p j=>j≤L.length∧i<j∧To L size (-50) ⟨i,.word gY :: .m .name :: .word jZ :: .word [123] :: .lines .field :: .word [125] :: .m .fin :: rest,⟨gY,[],tf L size i,[],0⟩ :: T :: O⟩ ⟨j,rest,T.add p (tf L size i) :: O⟩
  | .bad j=>Fl L size 60 ⟨i,.word gY :: .m .name :: .word jZ :: .word [123] :: .lines .field :: .word [125] :: .m .fin :: rest,⟨gY,[],tf L size i,[],0⟩ :: T :: O⟩ j:=by
 have hlt:=bR h1
 unfold record bI
 rw [h1,ay rfl];simp only [Out.next];have hw:=fK size hL (by decide) (.m .name :: .word jZ :: .word [123] :: .lines .field :: .word [125] :: .m .fin :: rest) (⟨gY,[],tf L size i,[],0⟩ :: T :: O) h1
 unfold gK
 cases h2:bT L 0 (i+1) with
 | false =>
  rw [ai (by decide)]
  exact .cons hw (.now (nL size hL _ _ h2)) (by dsimp only;omega)
 | true =>
 have hlt2:=gP h2;rw [ay rfl];simp only;have hm:=uk size hL (.word jZ :: .word [123] :: .lines .field :: .word [125] :: .m .fin :: rest) ⟨gY,[],tf L size i,[],0⟩ (T :: O) h2
 cases h3:bG L jZ (i+1+1) with
 | false =>
  rw [ai (by decide)]
  exact .cons hw (.cons hm (.now (gM size hL (by decide) _ _ h3)) (au _)) (by dsimp only;omega)
 | true =>
 have hlt3:=bR h3;rw [ay rfl];simp only;have hw3:=fK size hL (by decide) (.word [123] :: .lines .field :: .word [125] :: .m .fin :: rest) (⟨gY,dz L (i+1),tf L size i,[],0⟩ :: T :: O) h3
 cases h4:bG L [123] (i+1+1+1) with
 | false =>
  rw [ai (by decide)]
  exact .cons hw (.cons hm (.cons hw3 (.now (gM size hL (by decide) _ _ h4)) (au _)) (au _)) (by dsimp only;omega)
 | true =>
 have Eu:=bR h4;rw [ay rfl];simp only;have hw4:=fK size hL (by decide) (.lines .field :: .word [125] :: .m .fin :: rest) (⟨gY,dz L (i+1),tf L size i,[],0⟩ :: T :: O) h4;obtain ⟨u,hu⟩:∃ u,i+1+1+1+1=u:=⟨_,rfl⟩;rw [hu] at hw4 ⊢;have hl:=CY size hL (i:=u) .field (.word [125] :: .m .fin :: rest) (⟨gY,dz L (i+1),tf L size i,[],0⟩ :: T :: O);have hle:u+bE L u≤L.length:=kW u (by omega);obtain ⟨m,hm'⟩:∃ m,n=m+1:=⟨n - 1,by omega⟩
 cases h5:bG L [125] (u+bE L u) with
 | true =>
  have Bt:=bR h5;rw [h5,ay rfl] at hl;rw [show fields L n n (u+bE L u) []=.ok [] (u+bE L u) by rw [hm'];simp only [fields,h5,if_true]];simp only;rw [h5,ay rfl];have jA:=fK size hL (by decide) (.m .fin :: rest) (⟨gY,dz L (i+1),tf L size i,[],0⟩ :: T :: O) h5;have hf:=iR size rest gY (dz L (i+1)) (tf L size i) 0 [] T O (by decide) (dX _) Bt;refine ⟨Bt,by omega,?_⟩;rw [fP hlt] at hw hm hw3 hw4 hl jA hf ⊢
  exact .cons hw (.cons hm (.cons hw3 (.cons hw4 (.cons hl (.cons jA (.one hf) (au _)) (au _)) (au _)) (au _)) (au _)) (by dsimp only;omega)
 | false =>
  rw [h5,ai (by decide)] at hl;have hk:=C4 size hL n n (u+bE L u) ⟨gY,dz L (i+1),tf L size i,[],0⟩ (T :: O) (.m .fin :: rest) (by omega) (by omega) hle h5;dsimp only at hk
  cases h6:fields L n n (u+bE L u) [] with
  | bad k=>rw [h6] at hk;exact .cons hw (.cons hm (.cons hw3 (.cons hw4 (.cons hl hk (au _)) (au _)) (au _)) (au _)) (by dsimp only;omega)
  | ok l k =>
   rw [h6] at hk;obtain ⟨r1,r2,r3,kf,r4⟩:=hk;have UL:=bR r3;simp only;rw [r3,ay rfl];have jA:=fK size hL (by decide) (.m .fin :: rest) (⟨gY,dz L (i+1),tf L size i,l,kf⟩ :: T :: O) r3;have hf:=iR size rest gY (dz L (i+1)) (tf L size i) kf l T O (by decide) (dX _) UL;refine ⟨UL,by omega,?_⟩;rw [fP hlt] at hw hm hw3 hw4 hl r4 jA hf ⊢
   exact .cons hw (.cons hm (.cons hw3 (.cons hw4 (.cons hl (r4.trans (.cons jA (.one hf) (au _))) (au _)) (au _)) (au _)) (au _)) (by dsimp only;omega)
theorem Oc {i:Nat} (R:List Stp) (a:Open) (O:List Open) (h0:0<i):fC L size ⟨i,.m .result :: R,a :: O⟩ =
  if bG L [123] i then .go ⟨i,R,a.add (.mk fJ [] 0 0 []) (tf L size i) :: O⟩ else .go ⟨i,.m .typeOf :: .m .fin :: R,⟨fJ,[],tf L size i,[],0⟩ :: a :: O⟩:=by
 show bD L size .result ⟨i,R,a :: O⟩=_
 simp only [bD];rw [gU size hL (by decide),ai (show ¬ i=0 by omega)];rfl
theorem Lf (n i:Nat) (hn:2*L.length+1≤n) (h0:0<i) (hi:i≤L.length) (T:Open) (O:List Open) (rest:List Stp):match (if bG L [123] i then Out.ok [] i else (typed L n i).next fun x q=>.ok [x] q:Out (List Pt)) with
  | .ok rs j=>j≤L.length∧i≤j∧To L size 2 ⟨i,.m .result :: rest,T :: O⟩ ⟨j,rest,T.add (mG fJ rs) (tf L size i) :: O⟩
  | .bad j=>Fl L size 20 ⟨i,.m .result :: rest,T :: O⟩ j:=by
 have hr:=Oc size hL (i:=i) rest T O h0
 cases h1:bG L [123] i with
 | true =>
  rw [h1,ay rfl] at hr;rw [ay rfl]
  exact ⟨hi,ae _,.last hr (by dsimp only;omega)⟩
 | false =>
  rw [h1,ai (by decide)] at hr;rw [ai (by decide)];have hp:=lh size hL n i (by omega) hi ⟨fJ,[],tf L size i,[],0⟩ (T :: O) (.m .fin :: rest)
  cases h2:typed L n i with
  | bad j=>rw [h2] at hp;exact .cons hr hp (by dsimp only;omega)
  | ok x j =>
   rw [h2] at hp;obtain ⟨hj,hij,hx⟩:=hp;have hf:=Gz (L:=L) size rest fJ (tf L size i) (tf L size i) [x] T O (.inr rfl) (by omega:0<j)
   exact ⟨hj,by omega,.cons hr (hx.trans (.one hf)) (by dsimp only;omega)⟩
theorem Rb (n i:Nat) (hn:8*L.length+10≤n) (h1:bG L eY i=true) (T:Open) (O:List Open) (rest:List Stp):match rX L n i with
  | .ok p j=>j≤L.length∧i<j∧To L size (-50) ⟨i,.word eY :: .m .name :: .m .params :: .m .result :: .m .block :: .m .fin :: rest,⟨eY,[],tf L size i,[],0⟩ :: T :: O⟩ ⟨j,rest,T.add p (tf L size i) :: O⟩
  | .bad j=>Fl L size 60 ⟨i,.word eY :: .m .name :: .m .params :: .m .result :: .m .block :: .m .fin :: rest,⟨eY,[],tf L size i,[],0⟩ :: T :: O⟩ j:=by
 have hlt:=bR h1
 unfold rX bI
 rw [h1,ay rfl];simp only [Out.next];have hw:=fK size hL (by decide) (.m .name :: .m .params :: .m .result :: .m .block :: .m .fin :: rest) (⟨eY,[],tf L size i,[],0⟩ :: T :: O) h1
 unfold gK
 cases h2:bT L 0 (i+1) with
 | false =>
  rw [ai (by decide)]
  exact .cons hw (.now (nL size hL _ _ h2)) (by dsimp only;omega)
 | true =>
 have hlt2:=gP h2;rw [ay rfl];simp only;have hm:=uk size hL (.m .params :: .m .result :: .m .block :: .m .fin :: rest) ⟨eY,[],tf L size i,[],0⟩ (T :: O) h2;have ho:=wJ size hL (k:=.params) (kd:=eT) (l:=[.word [40],.jE .param,.word [41],.m .fin]) (fun s=>rfl) (i:=i+1+1) (.m .result :: .m .block :: .m .fin :: rest) (⟨eY,dz L (i+1),tf L size i,[],0⟩ :: T :: O)
 cases h3:bG L [40] (i+1+1) with
 | false =>
  rw [ai (by decide)]
  exact .cons hw (.cons hm (.cons ho (.now (gM size hL (by decide) _ _ h3)) (au _)) (au _)) (by dsimp only;omega)
 | true =>
 have hlt3:=bR h3;rw [ay rfl];simp only;have hw3:=fK size hL (by decide) (.jE .param :: .word [41] :: .m .fin :: .m .result :: .m .block :: .m .fin :: rest) (⟨eT,[],tf L size (i+1+1),[],0⟩ :: ⟨eY,dz L (i+1),tf L size i,[],0⟩ :: T :: O) h3;obtain ⟨u,hu⟩:∃ u,i+1+1+1=u:=⟨_,rfl⟩;rw [hu] at hw3 ⊢;have hc:=ET size hL (i:=u) .param (.word [41] :: .m .fin :: .m .result :: .m .block :: .m .fin :: rest) (⟨eT,[],tf L size (i+1+1),[],0⟩ :: ⟨eY,dz L (i+1),tf L size i,[],0⟩ :: T :: O)
 have hps:match (if bG L [41] u then Out.ok [] (u+1) else params L n n u []:Out (List Pt)) with
   | .ok ps j=>j≤L.length∧u<j∧To L size 2 ⟨u,.jE .param :: .word [41] :: .m .fin :: .m .result :: .m .block :: .m .fin :: rest,⟨eT,[],tf L size (i+1+1),[],0⟩ :: ⟨eY,dz L (i+1),tf L size i,[],0⟩ :: T :: O⟩ ⟨j,.m .result :: .m .block :: .m .fin :: rest,⟨eY,dz L (i+1),tf L size i,[mG eT ps],tf L size (i+1+1)⟩ :: T :: O⟩
   | .bad j=>Fl L size 51 ⟨u,.jE .param :: .word [41] :: .m .fin :: .m .result :: .m .block :: .m .fin :: rest,⟨eT,[],tf L size (i+1+1),[],0⟩ :: ⟨eY,dz L (i+1),tf L size i,[],0⟩ :: T :: O⟩ j:=by
  cases h4:bG L [41] u with
  | true =>
   have Eu:=bR h4;rw [h4,ay rfl] at hc;rw [ay rfl];have hw4:=fK size hL (by decide) (.m .fin :: .m .result :: .m .block :: .m .fin :: rest) (⟨eT,[],tf L size (i+1+1),[],0⟩ :: ⟨eY,dz L (i+1),tf L size i,[],0⟩ :: T :: O) h4;have hf:=Gz (L:=L) size (.m .result :: .m .block :: .m .fin :: rest) eT (tf L size (i+1+1)) 0 [] ⟨eY,dz L (i+1),tf L size i,[],0⟩ (T :: O) (.inl rfl) (dX u)
   exact ⟨Eu,by omega,.cons hc (.cons hw4 (.one hf) (au _)) (by dsimp only;omega)⟩
  | false =>
   rw [h4,ai (by decide)] at hc;rw [ai (by decide)];have hk:=CZ size hL n n u ⟨eT,[],tf L size (i+1+1),[],0⟩ (⟨eY,dz L (i+1),tf L size i,[],0⟩ :: T :: O) (.m .fin :: .m .result :: .m .block :: .m .fin :: rest) (by omega) (by omega) (by omega);dsimp only at hk
   cases h5:params L n n u [] with
   | bad j=>rw [h5] at hk;exact .cons hc hk (by dsimp only;omega)
   | ok ps j =>
    rw [h5] at hk;obtain ⟨q1,q2,kf,q3⟩:=hk;have hf:=Gz (L:=L) size (.m .result :: .m .block :: .m .fin :: rest) eT (tf L size (i+1+1)) kf ps ⟨eY,dz L (i+1),tf L size i,[],0⟩ (T :: O) (.inl rfl) (by omega:0<j)
    exact ⟨q1,by omega,.cons hc (q3.trans (.one hf)) (by dsimp only;omega)⟩
 cases h4:(if bG L [41] u then Out.ok [] (u+1) else params L n n u []:Out (List Pt)) with
 | bad j=>rw [h4] at hps;exact .cons hw (.cons hm (.cons ho (.cons hw3 hps (au _)) (au _)) (au _)) (by dsimp only;omega)
 | ok ps o =>
  rw [h4] at hps;obtain ⟨p1,p2,p3⟩:=hps;simp only;have hrs:=Lf size hL n o (by omega) (by omega) p1 ⟨eY,dz L (i+1),tf L size i,[mG eT ps],tf L size (i+1+1)⟩ (T :: O) (.m .block :: .m .fin :: rest)
  have fin:∀ (rs:List Pt) (q:Nat),q≤L.length→o≤q→To L size 2 ⟨o,.m .result :: .m .block :: .m .fin :: rest,⟨eY,dz L (i+1),tf L size i,[mG eT ps],tf L size (i+1+1)⟩ :: T :: O⟩ ⟨q,.m .block :: .m .fin :: rest,Open.add ⟨eY,dz L (i+1),tf L size i,[mG eT ps],tf L size (i+1+1)⟩ (mG fJ rs) (tf L size o) :: T :: O⟩ →
    match (block L n q).next fun b r=>Go.Proofs.YtojoahlpgmnbnaaGreatDoor.T.part L eY (dz L (i+1)) (bQ L i) [mG eT ps,mG fJ rs,b] r with
    | .ok p j=>j≤L.length∧i<j∧To L size (-50) ⟨i,.word eY :: .m .name :: .m .params :: .m .result :: .m .block :: .m .fin :: rest,⟨eY,[],tf L size i,[],0⟩ :: T :: O⟩ ⟨j,rest,T.add p (tf L size i) :: O⟩
    | .bad j=>Fl L size 60 ⟨i,.word eY :: .m .name :: .m .params :: .m .result :: .m .block :: .m .fin :: rest,⟨eY,[],tf L size i,[],0⟩ :: T :: O⟩ j:=by
   intro rs q r1 r2 r3;have hb:=(WC size hL n).block q (by omega) r1 (Open.add ⟨eY,dz L (i+1),tf L size i,[mG eT ps],tf L size (i+1+1)⟩ (mG fJ rs) (tf L size o)) (T :: O) (.m .fin :: rest)
   cases h6:block L n q with
   | bad j=>rw [h6] at hb;exact .cons hw (.cons hm (.cons ho (.cons hw3 (p3.fl (r3.fl hb)) (au _)) (au _)) (au _)) (by dsimp only;omega)
   | ok b j =>
    rw [h6] at hb;obtain ⟨b1,b2,b3⟩:=hb;have hf:=iR size rest eY (dz L (i+1)) (tf L size i) (tf L size q) [mG eT ps,mG fJ rs,b] T O (by decide) (by omega) b1;refine ⟨b1,by omega,?_⟩;rw [fP hlt] at hw hm ho hw3 p3 r3 b3 hf ⊢
    exact .cons hw (.cons hm (.cons ho (.cons hw3 (p3.trans (r3.trans (b3.trans (.one hf)))) (au _)) (au _)) (au _)) (by dsimp only;omega)
  cases h5:bG L [123] o with
  | true =>
   rw [h5,ay rfl] at hrs;rw [ay rfl]
   exact fin [] o hrs.1 hrs.2.1 hrs.2.2
  | false =>
   rw [h5,ai (by decide)] at hrs;rw [ai (by decide)]
   cases h6:typed L n o with
   | bad j=>rw [h6] at hrs;exact .cons hw (.cons hm (.cons ho (.cons hw3 (p3.fl hrs) (au _)) (au _)) (au _)) (by dsimp only;omega)
   | ok x q=>rw [h6] at hrs;exact fin [x] q hrs.1 hrs.2.1 hrs.2.2
theorem MW {i:Nat} (R:List Stp) (O:List Open):fC L size ⟨i,.m .decl :: R,O⟩ =
  if bG L eY i then .go ⟨i,.word eY :: .m .name :: .m .params :: .m .result :: .m .block :: .m .fin :: R,⟨eY,[],tf L size i,[],0⟩ :: O⟩
  else if bG L jg i then .go ⟨i,.word jg :: .m .name :: .m .typeOf :: .m .fin :: R,⟨jg,[],tf L size i,[],0⟩ :: O⟩
  else if bG L gY i then .go ⟨i,.word gY :: .m .name :: .word jZ :: .word [123] :: .lines .field :: .word [125] :: .m .fin :: R,⟨gY,[],tf L size i,[],0⟩ :: O⟩
  else .wrong:=by
 show bD L size .decl ⟨i,R,O⟩=_
 simp only [bD];rw [gU size hL (by decide),gU size hL (by decide),gU size hL (by decide)];rfl
theorem Rc (n:Nat) (hn:8*L.length+10≤n) (T:Open) (O:List Open) (rest:List Stp):match decl L n with
  | .ok p j=>j≤L.length∧0<j∧To L size 0 ⟨0,.m .decl :: rest,T :: O⟩ ⟨j,rest,T.add p (tf L size 0) :: O⟩
  | .bad j=>Fl L size 70 ⟨0,.m .decl :: rest,T :: O⟩ j:=by
 have h0:=MW size hL (i:=0) rest (T :: O)
 unfold decl
 by_cases h1:bG L eY 0=true
 ·rw [ay h1]
  rw [h1,ay rfl] at h0;have hf:=Rb size hL n 0 hn h1 T O rest
  cases h2:rX L n 0 with
  | bad j=>rw [h2] at hf;exact .cons h0 hf (by dsimp only;omega)
  | ok p j=>rw [h2] at hf;exact ⟨hf.1,hf.2.1,.cons h0 hf.2.2 (by dsimp only;omega)⟩
 rw [ai h1]
 have WB:bG L eY 0=false:=by simpa using h1
 by_cases h2:bG L jg 0=true
 ·rw [ay h2]
  have hv:=yQ size hL .decl (fun i R O h=>by rw [MW size hL,h,rA h (by decide),ai (by decide),ay rfl]) n 0 (by omega) h2 T O rest
  cases h3:iX L n 0 with
  | bad j=>rw [h3] at hv;exact hv.mono (by omega)
  | ok p j=>rw [h3] at hv;exact ⟨hv.1,hv.2.1,hv.2.2.mono (by omega)⟩
 rw [ai h2]
 have ZL:bG L jg 0=false:=by simpa using h2
 by_cases h3:bG L gY 0=true
 ·rw [ay h3]
  rw [WB,ai (by decide),ZL,ai (by decide),h3,ay rfl] at h0;have hf:=Le size hL n 0 hn h3 T O rest
  cases h4:record L n 0 with
  | bad j=>rw [h4] at hf;exact .cons h0 hf (by dsimp only;omega)
  | ok p j=>rw [h4] at hf;exact ⟨hf.1,hf.2.1,.cons h0 hf.2.2 (by dsimp only;omega)⟩
 rw [ai h3]
 have h3f:bG L gY 0=false:=by simpa using h3
 rw [WB,ai (by decide),ZL,ai (by decide),h3f,ai (by decide)] at h0
 exact (Fl.now h0).mono (by omega)
def root:Open:=⟨[],[],0,[],0⟩
def begun:St:=⟨0,[.m .decl,.m .vw,.m .nC],[root]⟩
omit hL in
def vP (L:List aZ) (s:St):Prop:=s.i≤L.length∧∀ x,.word x∈s.todo→x∈mi
omit hL in
theorem iZ {i j:Nat} {todo l:List Stp} {O O':List Open} (h:vP L ⟨i,todo,O⟩) (hj:j≤L.length) (hl:∀ x,.word x∈l→x∈mi):vP L ⟨j,l++todo,O'⟩:=by
 refine ⟨hj,fun x hx=>?_⟩
 rcases List.mem_append.1 hx with hx|hx
 ·exact hl x hx
 ·exact h.2 x hx
omit hL in
theorem pZ {i j:Nat} {todo l:List Stp} {O:List Open} {o:Option (List Open)} {s:St} (h:vP L ⟨i,todo,O⟩) (hj:j≤L.length) (hl:∀ x,.word x∈l→x∈mi) (hs:nY j (l++todo) o=.go s):vP L s:=by
 cases o with
 | none=>cases hs
 | some O'=>cases hs;exact iZ h hj hl
theorem EU {s s1:St} (h:vP L s) (hs:fC L size s=.go s1):vP L s1:=by
 obtain ⟨i,todo,O⟩:=s
 cases todo with
 | nil=>cases hs
 | cons x R =>
  have hi:i≤L.length:=h.1;have h0:vP L ⟨i,R,O⟩:=⟨hi,fun x hx=>h.2 x (bf _ hx)⟩;have hle:=kW i hi
  have hsp:∀ {l:List By},(∀ y∈l,y∈mi)→∀ {y:By},y∈l→y∈mi:=fun h _ hy=>h _ hy
  have hs:exec L size x ⟨i,R,O⟩=.go s1:=hs
  cases x with
  | word x =>
   have hx:=h.2 x bO;simp only [exec] at hs;rw [gU size hL hx] at hs
   split at hs
   ·rename_i h1;cases hs;exact iZ (l:=[]) h0 (bR h1) (by simp)
   ·cases hs
  | lines k =>
   simp only [exec] at hs
   split at hs
   ·cases hs;exact iZ (l:=[]) h0 hle (by simp)
   ·cases hs;exact iZ (l:=[.m k,.more k]) h0 hle (by simp)
  | more k =>
   simp only [exec] at hs
   split at hs
   ·cases hs;exact iZ h0 hi (by simp)
   ·cases hs;exact h0
  | jE k =>
   simp only [exec] at hs
   split at hs
   ·cases hs;exact h0
   ·cases hs;exact iZ h0 hi (by simp)
  | kK k =>
   simp only [exec] at hs
   split at hs
   ·cases hs;exact iZ h0 hi (by simp;decide)
   ·cases hs;exact h0
  | m k =>
   have hs:bD L size k ⟨i,R,O⟩=.go s1:=hs
   have hop:∀ {kd:By} {l:List Stp},(∀ x,.word x∈l→x∈mi)→opened L size kd ⟨i,R,O⟩ l=.go s1→vP L s1:=fun hl h=>by cases h;exact iZ h0 hi hl
   have Jj:∀ {l:List Stp},(∀ x,.word x∈l→x∈mi)→uh ⟨i,R,O⟩ l=.go s1→vP L s1:=fun hl h=>by cases h;exact iZ h0 hi hl
   have hvar:varDecl L size ⟨i,R,O⟩=.go s1→vP L s1:=hop (by simp;decide);have hif:zK L size ⟨i,R,O⟩=.go s1→vP L s1:=hop (by simp;decide);have hbl:xG L size ⟨i,R,O⟩=.go s1→vP L s1:=hop (by simp;decide);have hex:EF ⟨i,R,O⟩=.go s1→vP L s1:=Jj (by simp)
   cases k with
   | decl=>simp only [bD] at hs;repeat' split at hs
           ·exact hop (by simp;decide) hs
           ·exact hvar hs
           ·exact hop (by simp;decide) hs
           ·cases hs
   | vw=>cases hs;exact iZ (l:=[]) h0 hle (by simp)
   | nC=>simp only [bD] at hs;split at hs;cases hs;exact h0;cases hs
   | name =>
    simp only [bD] at hs;rw [vC size hL (by decide)] at hs
    split at hs
    ·rename_i h1;exact pZ (l:=[]) h0 (gP h1) (by simp) hs
    ·cases hs
   | params=>exact hop (by simp;decide) hs
   | result =>
    simp only [bD] at hs;repeat' split at hs
    ·cases hs
    ·cases hs;exact iZ (l:=[]) h0 hi (by simp)
    ·cases hs;exact iZ (l:=[]) h0 hi (by simp)
    ·exact hop (by simp) hs
   | block=>exact hbl hs
   | fin =>
    simp only [bD,Bq] at hs
    split at hs
    ·cases hs
    ·exact pZ (l:=[]) h0 hi (by simp) hs
   | field=>exact hop (by simp) hs
   | param=>exact hop (by simp) hs
   | typeOf =>
    simp only [bD] at hs;repeat' split at hs
    ·exact hop (by simp;decide) hs
    ·exact hop (by simp;decide) hs
    ·exact hop (by simp) hs
   | stmt =>
    simp only [bD] at hs;repeat' split at hs
    ·exact hvar hs
    ·exact hop (by simp;decide) hs
    ·exact hif hs
    ·exact hop (by simp;decide) hs
    ·exact hbl hs
    ·exact hop (by simp) hs
   | returned =>
    simp only [bD] at hs;split at hs
    ·exact hex hs
    ·cases hs;exact h0
   | expr=>exact hex hs
   | assigned =>
    simp only [bD] at hs;rw [gU size hL (by decide),gU size hL (by decide)] at hs
    repeat' split at hs
    ·rename_i h1;exact pZ (l:=[.m .pre,.m .between]) h0 (bR h1) (by simp) hs
    ·rename_i h1;exact pZ (l:=[.m .pre,.m .between]) h0 (bR h1) (by simp) hs
    ·cases hs;exact h0
   | otherwise =>
    simp only [bD] at hs;split at hs
    ·exact Jj (by simp;decide) hs
    ·cases hs;exact h0
   | pre =>
    simp only [bD] at hs;split at hs
    ·exact hop (by simp) hs
    ·exact Jj (by simp) hs
   | between =>
    simp only [bD,q8] at hs
    repeat' split at hs
    ·cases hs
    ·cases hs
    ·exact pZ (l:=[.m .text,.m .pre,.m .between]) h0 hi (by simp) hs
    ·cases hs;exact iZ (l:=[]) h0 hi (by simp)
   | iY =>
    simp only [bD] at hs;split at hs
    ·exact hif hs
    ·exact hbl hs
   | text =>
    simp only [bD] at hs
    split at hs
    ·rename_i h1;exact pZ (l:=[]) h0 h1 (by simp) hs
    ·cases hs
   | behind =>
    simp only [bD] at hs;repeat' split at hs
    ·exact pZ (l:=[.word [46],.m .name,.m .fin,.m .behind]) h0 hi (by simp;decide) hs
    ·exact pZ (l:=[.word [91],.m .expr,.word [93],.m .fin,.m .behind]) h0 hi (by simp;decide) hs
    ·cases hs;exact h0
   | operand =>
    simp only [bD] at hs;repeat' split at hs
    ·exact hop (by simp) hs
    ·exact hop (by simp) hs
    ·exact hop (by simp) hs
    ·exact hop (by simp;decide) hs
   | called =>
    simp only [bD] at hs;rw [gU size hL (by decide)] at hs
    split at hs
    ·rename_i h1
     have hlt:=bR h1
     split at hs
     ·cases hs
     ·repeat' split at hs
      ·cases hs;exact iZ (l:=[.m .typeOf,.word [41]]) h0 hlt (by simp;decide)
      ·cases hs;exact iZ (l:=[.m .typeOf,.word [44],.m .expr,.word [41]]) h0 hlt (by simp;decide)
      ·cases hs;exact iZ (l:=[.jE .expr,.word [41]]) h0 hlt (by simp;decide)
    ·cases hs;exact h0
theorem Od {n:Nat} {s s1:St} (h:Goes L size n s s1) (h0:vP L s):vP L s1:=by
 induction h with
 | refl n s=>exact h0
 | step h1 _ ih=>exact ih (EU size hL h0 h1)
omit hL in
theorem C5:vP L begun:=⟨aL _,by simp [begun]⟩
theorem UQ (n:Nat) (hn:8*L.length+10≤n):match decl L n with
  | .ok p i=>if i+bE L i<L.length then uM L size (100*L.length+100) begun (i+bE L i)
    else i+bE L i=L.length∧∃ f,Goes L size (100*L.length+100) begun ⟨L.length,[],[root.add p f]⟩
  | .bad i=>uM L size (100*L.length+100) begun i:=by
 have hd:=Rc size hL n hn root [] [.m .vw,.m .nC]
 have falls:∀ {j:Nat} {c:Int},Fl L size c begun j→c≤80→j≤L.length→uM L size (100*L.length+100) begun j:=by
  rintro j c ⟨m,h1,s',h2,h3⟩ hc hj;have h4:(begun.i:Int)=0:=rfl
  exact ⟨s',h2.mono (by omega),h3⟩
 cases h1:decl L n with
 | bad j =>
  rw [h1] at hd;obtain ⟨m,g1,s',g2,g3,g4⟩:=hd;have h4:((⟨0,[.m .decl,.m .vw,.m .nC],[root]⟩:St).i:Int)=0:=rfl
  have hj:j≤L.length:=by rw [← g4];exact (Od size hL g2 C5).1
  exact falls (c:=70) ⟨m,g1,s',g2,g3,g4⟩ (by omega) hj
 | ok p i =>
  rw [h1] at hd;obtain ⟨hj,hij,ht⟩:=hd;have hle:=kW i hj;have hs:fC L size ⟨i,[.m .vw,.m .nC],root.add p (tf L size 0) :: []⟩=.go ⟨i+bE L i,[.m .nC],[root.add p (tf L size 0)]⟩:=rfl
  have hm:fC L size ⟨i+bE L i,[.m .nC],[root.add p (tf L size 0)]⟩=if decide (L.length≤i+bE L i) then .go ⟨i+bE L i,[],[root.add p (tf L size 0)]⟩ else .wrong:=by
   show bD L size .nC ⟨i+bE L i,[],[root.add p (tf L size 0)]⟩=_
   simp only [bD];rw [T3 size hL]
  simp only
  by_cases h2:i+bE L i<L.length
  ·rw [ay h2]
   rw [di (by omega),ai (by decide)] at hm
   exact falls (c:=1) ((ht.fl (.cons hs (.now hm) (au _))).mono (by dsimp only;omega)) (by omega) (by omega)
  ·rw [ai h2]
   have he:i+bE L i=L.length:=by omega
   rw [decide_eq_true (by omega),ay rfl,he] at hm;rw [he] at hs;refine ⟨he,tf L size 0,?_⟩;obtain ⟨m,g1,g2⟩:=(ht.trans (.cons hs (.one hm) (au _)):To L size _ _ _);dsimp only at g1
   exact g2.mono (by omega)
end
structure Sz (n:Nat) (s:St):Prop where
 todo:s.todo.length≤6*n+3
 opn:s.opn.length≤n+1
 EV:s.opn≠[]
 kids:∀ o∈s.opn,o.kids.length≤n
theorem Re:Sz 0 begun:=⟨by simp [begun],by simp [begun],by simp [begun],fun o ho=>by
 simp only [begun,List.mem_singleton] at ho;subst ho
 simp [root]⟩
section
variable {n i j:Nat} {R l:List Stp} {O O':List Open} {s1:St}
theorem yR {k:Nat} (_h:Sz n ⟨i,R,O⟩) (hl:l.length≤7) (h1:O'.length≤n+2) (h2:O'≠[]) (h3:∀ o∈O',o.kids.length≤n+1) (hk:R.length+1≤6*n+3):Sz (n+1) ⟨k,l++R,O'⟩ :=
 ⟨by rw [show (⟨k,l++R,O'⟩:St).todo=l++R from rfl,aM];omega,h1,h2,h3⟩
theorem GA {k:Nat} (h:Sz n ⟨i,R,O⟩) (hl:l.length≤7) (hk:R.length+1≤6*n+3):Sz (n+1) ⟨k,l++R,O⟩ :=
 yR h hl (by have:=h.opn;show O.length≤_;exact bP this) h.EV (fun o ho=>bP (h.kids o ho)) hk
theorem UR {k:Nat} {o:Open} (h:Sz n ⟨i,R,O⟩) (ho:o.kids.length≤1) (hl:l.length≤7) (hk:R.length+1≤6*n+3):Sz (n+1) ⟨k,l++R,o :: O⟩ :=
 yR h hl (by have:O.length≤n+1:=h.opn;rw [aH];omega) (by simp) (fun q hq=>by
  rcases bA.1 hq with rfl|hq
  ·omega
  ·exact bP (h.kids q hq)) hk
theorem Oe {t:By} (h:EC t O=some O'):O'.length=O.length∧O'≠[]∧∀ q∈O',∃ o∈O,q.kids=o.kids:=by
 cases O with
 | nil=>cases h
 | cons o r =>
  cases h
  refine ⟨rfl,by simp,fun q hq=>?_⟩
  rcases bA.1 hq with rfl|hq
  ·exact ⟨o,bO,rfl⟩
  ·exact ⟨q,bf _ hq,rfl⟩
theorem Og {t:By} (h:ED t O=some O'):O'.length=O.length∧O'≠[]∧∀ q∈O',∃ o∈O,q.kids=o.kids:=by
 cases O with
 | nil=>cases h
 | cons o r =>
  cases h
  refine ⟨rfl,by simp,fun q hq=>?_⟩
  rcases bA.1 hq with rfl|hq
  ·exact ⟨o,bO,rfl⟩
  ·exact ⟨q,bf _ hq,rfl⟩
theorem Lg {e:Int} (h:sF e O=some O') (hk:∀ o∈O,o.kids.length≤n):O'.length≤O.length∧O'≠[]∧∀ q∈O',q.kids.length≤n+1:=by
 match O,h with
 | o :: a :: r,h =>
  unfold sF at h
  dsimp only at h
  cases hc:o.close e with
  | none=>rw [hc] at h;cases h
  | some p =>
   rw [hc] at h
   cases h
   refine ⟨by simp,by simp,fun q hq=>?_⟩
   rcases bA.1 hq with rfl|hq
   ·have h1:=hk a (bf _ bO)
    show (a.kids++[p]).length≤_
    rw [aM];exact iA h1
   ·exact bP (hk q (bf _ (bf _ hq)))
theorem AV {e s:Int}:∀ (r:List Open) (o:Open),settle e s o r=some O'→o.kids.length≤n+1→(∀ q∈r,q.kids.length≤n)→O'.length≤r.length+1∧O'≠[]∧∀ q∈O',q.kids.length≤n+1
 | [],o,h,h1,_=>by
  unfold settle at h
  split at h
  ·cases h
  ·cases h
   exact ⟨ae _,by simp,fun q hq=>by rw [List.mem_singleton.1 hq];exact h1⟩
 | a :: r,o,h,h1,h2=>by
  unfold settle at h
  split at h
  ·have h3:=AV r _ h (by
    show (a.kids++[_]).length≤_
    rw [aM];exact iA (h2 a bO)) (fun q hq=>h2 q (bf _ hq))
   exact ⟨aJ h3.1 (by simp),h3.2⟩
  ·cases h
   refine ⟨by simp,by simp,fun q hq=>?_⟩
   rcases bA.1 hq with rfl|hq
   ·exact h1
   ·exact bP (h2 q hq)
theorem EW {k:By} (h:oI k O=some O') (hk:∀ o∈O,o.kids.length≤n) (hn:1≤n):O'.length=O.length+1∧O'≠[]∧∀ q∈O',q.kids.length≤n:=by
 cases O with
 | nil=>cases h
 | cons a r =>
  unfold oI at h
  dsimp only at h
  cases hc:a.kids.getLast? with
  | none=>rw [hc] at h;cases h
  | some p =>
   rw [hc] at h
   cases h
   refine ⟨by simp,by simp,fun q hq=>?_⟩
   rcases bA.1 hq with rfl|hq
   ·exact hn
   ·rcases bA.1 hq with rfl|hq
    ·show a.kids.dropLast.length≤n
     rw [List.length_dropLast];exact aJ (Nat.sub_le _ _) (hk a bO)
    ·exact hk q (bf _ hq)
theorem C6 {k:Nat} {o:Option (List Open)} (hs:nY k (l++R) o=.go s1) (hl:l.length≤7) (hk:R.length+1≤6*n+3) (ho:∀ O',o=some O'→O'.length≤n+2∧O'≠[]∧∀ q∈O',q.kids.length≤n+1):Sz (n+1) s1:=by
 cases o with
 | none=>cases hs
 | some O' =>
  cases hs
  obtain ⟨h1,h2,h3⟩:=ho O' rfl
  exact ⟨by rw [show (⟨k,l++R,O'⟩:St).todo=l++R from rfl,aM];omega,h1,h2,h3⟩
end
variable {L:List aZ} {size:Nat}
theorem US {n:Nat} {s s1:St} (h:Sz n s) (hs:fC L size s=.go s1):Sz (n+1) s1:=by
 obtain ⟨i,todo,O⟩:=s
 cases todo with
 | nil=>cases hs
 | cons x R =>
  have h0:Sz n ⟨i,R,O⟩:=⟨aJ (dZ _) h.todo,h.opn,h.EV,h.kids⟩
  have hk:R.length+1≤6*n+3:=h.todo
  have hsame:∀ k,Sz (n+1) ⟨k,R,O⟩:=fun k=>GA (l:=[]) h0 (by simp) hk
  have hop:∀ {kd:By} {l:List Stp},l.length≤7→opened L size kd ⟨i,R,O⟩ l=.go s1→Sz (n+1) s1:=fun hl h=>by cases h;exact UR h0 (by simp) hl hk
  have Jj:∀ {l:List Stp},l.length≤7→uh ⟨i,R,O⟩ l=.go s1→Sz (n+1) s1:=fun hl h=>by cases h;exact GA h0 hl hk
  have hvar:varDecl L size ⟨i,R,O⟩=.go s1→Sz (n+1) s1:=hop (by simp);have hif:zK L size ⟨i,R,O⟩=.go s1→Sz (n+1) s1:=hop (by simp);have hbl:xG L size ⟨i,R,O⟩=.go s1→Sz (n+1) s1:=hop (by simp);have hex:EF ⟨i,R,O⟩=.go s1→Sz (n+1) s1:=Jj (by simp)
  have htx:∀ {t:By} {l:List Stp},l.length≤7→nY (i+1) (l++R) (EC t O)=.go s1→Sz (n+1) s1:=fun hl h=>C6 h hl hk (fun O' hO=>by
   obtain ⟨h1,h2,h3⟩:=Oe hO
   exact ⟨by rw [h1];exact bP h0.opn,h2,fun q hq=>by obtain ⟨o,ho,e⟩:=h3 q hq;rw [e];exact bP (h0.kids o ho)⟩)
  have hkd:∀ {t:By} {l:List Stp},l.length≤7→nY (i+1) (l++R) (ED t O)=.go s1→Sz (n+1) s1:=fun hl h=>C6 h hl hk (fun O' hO=>by
   obtain ⟨h1,h2,h3⟩:=Og hO
   exact ⟨by rw [h1];exact bP h0.opn,h2,fun q hq=>by obtain ⟨o,ho,e⟩:=h3 q hq;rw [e];exact bP (h0.kids o ho)⟩)
  have hwr:∀ {t:By} {l:List Stp},l.length≤7→nY i (l++R) (oI t O)=.go s1→Sz (n+1) s1:=fun hl h=>C6 h hl hk (fun O' hO=>by
   obtain ⟨h1,h2,h3⟩:=EW (n:=n+1) hO (fun o ho=>bP (h0.kids o ho)) (by omega)
   exact ⟨by rw [h1];exact iA h0.opn,h2,h3⟩)
  change exec L size x ⟨i,R,O⟩=.go s1 at hs
  cases x with
  | word t=>simp only [exec] at hs;split at hs <;> cases hs;exact hsame _
  | lines m=>simp only [exec] at hs;split at hs <;> cases hs;exact hsame _;exact GA (l:=[.m m,.more m]) h0 (by simp) hk
  | more m=>simp only [exec] at hs;split at hs;exact Jj (by simp) hs;cases hs;exact hsame _
  | jE m=>simp only [exec] at hs;split at hs;cases hs;exact hsame _;exact Jj (by simp) hs
  | kK m=>simp only [exec] at hs;split at hs;exact Jj (by simp) hs;cases hs;exact hsame _
  | m k =>
   change bD L size k ⟨i,R,O⟩=.go s1 at hs
   cases k with
   | decl=>simp only [bD] at hs;(repeat' split at hs);exact hop (by simp) hs;exact hvar hs;exact hop (by simp) hs;cases hs
   | vw=>simp only [bD] at hs;cases hs;exact hsame _
   | nC=>simp only [bD] at hs;split at hs <;> cases hs;exact hsame _
   | name=>simp only [bD] at hs;split at hs;exact htx (l:=[]) (by simp) hs;cases hs
   | params=>exact hop (by simp) hs
   | result =>
    simp only [bD] at hs
    split at hs
    ·split at hs
     ·cases hs
     ·cases O with
      | nil=>exact absurd rfl h0.EV
      | cons a r =>
       cases hs
       exact yR (l:=[]) h0 (by simp) (bP h0.opn) (by simp) (fun q hq=>by
        rcases bA.1 hq with rfl|hq
        ·show (a.kids++[_]).length≤_
         rw [aM];exact iA (h0.kids a bO)
        ·exact bP (h0.kids q (bf _ hq))) hk
    ·exact hop (by simp) hs
   | block=>exact hbl hs
   | fin =>
    simp only [bD,Bq] at hs
    split at hs
    ·cases hs
    ·exact C6 (l:=[]) hs (by simp) hk (fun O' hO=>by
      obtain ⟨h1,h2,h3⟩:=Lg hO h0.kids
      exact ⟨aJ h1 (bP h0.opn),h2,h3⟩)
   | field=>exact hop (by simp) hs
   | param=>exact hop (by simp) hs
   | typeOf=>simp only [bD] at hs;(repeat' split at hs);all_goals exact hop (by simp) hs
   | stmt=>simp only [bD] at hs;(repeat' split at hs);exact hvar hs;exact hop (by simp) hs;exact hif hs;exact hop (by simp) hs;exact hbl hs;exact hop (by simp) hs
   | returned=>simp only [bD] at hs;split at hs;exact hex hs;cases hs;exact hsame _
   | expr=>exact hex hs
   | assigned=>simp only [bD] at hs;(repeat' split at hs);exact hkd (l:=[.m .pre,.m .between]) (by simp) hs;exact hkd (l:=[.m .pre,.m .between]) (by simp) hs;cases hs;exact hsame _
   | otherwise=>simp only [bD] at hs;split at hs;exact Jj (by simp) hs;cases hs;exact hsame _
   | pre=>simp only [bD] at hs;split at hs;exact hop (by simp) hs;exact Jj (by simp) hs
   | between =>
    simp only [bD,q8] at hs
    split at hs
    ·cases hs
    ·split at hs
     ·cases hs
     ·rename_i O2 h2
      have h4:O2.length≤n+1∧O2≠[]∧∀ q∈O2,q.kids.length≤n+1:=by
       cases O with
       | nil=>exact absurd rfl h0.EV
       | cons o r =>
        have h5:=AV (n:=n) r o h2 (bP (h0.kids o bO)) (fun q hq=>h0.kids q (bf _ hq))
        exact ⟨aJ h5.1 h0.opn,h5.2⟩
      split at hs
      ·exact C6 hs (by simp) hk (fun O' hO=>by
        obtain ⟨h1,h3,h5⟩:=EW (n:=n+1) hO h4.2.2 (by omega)
        exact ⟨by rw [h1];exact iA h4.1,h3,h5⟩)
      ·cases hs
       exact yR (l:=[]) h0 (by simp) (bP h4.1) h4.2.1 h4.2.2 hk
   | iY=>simp only [bD] at hs;split at hs;exact hif hs;exact hbl hs
   | text=>simp only [bD] at hs;split at hs;exact htx (l:=[]) (by simp) hs;cases hs
   | behind=>simp only [bD] at hs;(repeat' split at hs);exact hwr (l:=[.word [46],.m .name,.m .fin,.m .behind]) (by simp) hs;exact hwr (l:=[.word [91],.m .expr,.word [93],.m .fin,.m .behind]) (by simp) hs;cases hs;exact hsame _
   | operand=>simp only [bD] at hs;(repeat' split at hs);all_goals exact hop (by simp) hs
   | called =>
    simp only [bD] at hs
    split at hs
    ·cases O with
     | nil=>exact absurd rfl h0.EV
     | cons o r =>
      have hb:∀ (q:Open),q.kids=o.kids→∀ k (l:List Stp),l.length≤7→Sz (n+1) ⟨k,l++R,q :: r⟩:=fun q hq k l hl=>yR h0 hl (bP h0.opn) (by simp) (fun z hz=>by
       rcases bA.1 hz with rfl|hz
       ·rw [hq];exact bP (h0.kids o bO)
       ·exact bP (h0.kids z (bf _ hz))) hk
      dsimp only at hs
      repeat' split at hs
      ·cases hs;exact hb { o with k:=pU,t:=[] } rfl _ [.m .typeOf,.word [41]] (by simp)
      ·cases hs;exact hb { o with k:=jM,t:=[] } rfl _ [.m .typeOf,.word [44],.m .expr,.word [41]] (by simp)
      ·cases hs;exact hb { o with k:=mO } rfl _ [.jE .expr,.word [41]] (by simp)
    ·cases hs;exact hsame _
end K
namespace K
open Go.RowKit
open Go.Lib hiding intOf
open U S T
section
variable {d:Nat} {L:List aZ} {size:Nat} {lv:Value} {s:St} {O:Nat→Prop}
theorem close_some {e:Int} {O O':List Open} (h:sF e O=some O'):∃ o a r p,O=o :: a :: r∧o.close e=some p∧O'=a.add p o.f :: r:=by
 match O,h with
 | o :: a :: r,h =>
  unfold sF at h
  dsimp only at h
  cases hc:o.close e with
  | none=>rw [hc] at h;cases h
  | some p=>rw [hc] at h;cases h;exact ⟨o,a,r,p,rfl,hc,rfl⟩
theorem UT {W:World} (hM:Mem d L size lv s O W) (hs:Small L s) (hG:Et O W) (hk1:∀ o∈s.opn,o.kids.length<1000000) (ho1:s.opn.length<1000000) (ho:s.opn≠[]) (k:BH) (hr:bD L size k s≠.stuck) :
  Calls Tryz.prog (IQ k) #[ptr d] W (Does d L size lv s.i O W (bD L size k s)):=by
 have ho':∃ o r,s.opn=o :: r:=by
  cases h:s.opn with
  | nil=>exact absurd h ho
  | cons o r=>exact ⟨o,r,rfl⟩
 cases k with
 | decl=>exact XC hM hs
 | vw=>exact MK hM hs
 | nC=>exact Qx hM hs
 | name=>exact XI hM hs ho'
 | params=>exact Qr hM hs
 | result=>exact QV hM hs ho1 hr ho'
 | block=>exact Gj hM hs
 | fin =>
  have h1:bD L size .fin s=Bq L size s:=rfl;rw [h1] at hr ⊢
  unfold Bq at hr ⊢
  by_cases h0:s.i=0
  ·rw [ay h0] at hr;exact absurd rfl hr
  ·rw [ai h0] at hr ⊢
   cases h2:sF (tok L size (s.i - 1)).e s.opn with
   | none=>rw [h2] at hr;exact absurd rfl hr
   | some O' =>
    obtain ⟨o,a,r,p,h3,h4,rfl⟩:=close_some h2
    exact QE hM hs o a r h3 (by omega) p h4
 | field=>exact Uq hM hs
 | param=>exact Up hM hs
 | typeOf=>exact Qs hM hs
 | stmt=>exact XE hM hs
 | returned=>exact KW hM hs
 | expr=>exact Gl hM hs
 | assigned=>exact KZ hM hs ho'
 | otherwise=>exact I6 hM hs
 | pre=>exact Qt hM hs
 | between=>exact NW hM hs hG hk1 hr
 | iY=>exact I7 hM hs
 | text =>
  have hi:s.i<L.length:=by
   by_cases h:s.i<L.length
   ·exact h
   ·simp only [bD,ai h] at hr;exact absurd rfl hr
  exact XJ hM hs ho' hi
 | behind=>exact QW hM hs hr
 | operand=>exact NH hM hs
 | called=>exact Qz hM hs ho'
theorem Rf (k:BH) (args:Array Value) (w:World):(callFunc (IQ k) args).run Tryz.prog w=.ok (.enter (IQ k) args) w:=by cases k <;> rfl
theorem yS {W:World} (hM:Mem d L size lv s O W) (hs:Small L s) (hG:Et O W) (hk1:∀ o∈s.opn,o.kids.length<1000000) (ho1:s.opn.length<1000000) (ho:s.opn≠[]) {x:Stp} {v:Value} (hx:qD O W d x v) (hr:exec L size x s≠.stuck) :
  (∃ f,v=.func (.func f) #[ptr d] #[]∧(∀ args w,(callFunc f args).run Tryz.prog w=.ok (.enter f args) w)∧Calls Tryz.prog f #[ptr d] W (Does d L size lv s.i O W (exec L size x s))) ∨
  (∃ f b1 b2,v=.func (.func f) #[] #[ptr b1,ptr b2]∧(∀ args w,(callFunc f args).run Tryz.prog w=.ok (.enter f args) w)∧Calls Tryz.prog f #[ptr b1,ptr b2] W (Does d L size lv s.i O W (exec L size x s))):=by
 cases x with
 | m k=>exact .inl ⟨_,hx,Rf k,UT hM hs hG hk1 ho1 ho k hr⟩
 | word t=>obtain ⟨b1,b2,rfl,h1,h2⟩:=hx;exact .inr ⟨_,_,_,rfl,fun _ _=>rfl,XH hM hs t b1 b2 h1 h2⟩
 | lines k=>obtain ⟨b1,b2,rfl,h1,h2⟩:=hx;exact .inr ⟨_,_,_,rfl,fun _ _=>rfl,Ut hM hs k b1 b2 _ rfl h1 h2⟩
 | more k=>obtain ⟨b1,b2,rfl,h1,h2⟩:=hx;exact .inr ⟨_,_,_,rfl,fun _ _=>rfl,XG hM hs k b1 b2 _ rfl h1 h2⟩
 | jE k=>obtain ⟨b1,b2,rfl,h1,h2⟩:=hx;exact .inr ⟨_,_,_,rfl,fun _ _=>rfl,Qu hM hs k b1 b2 _ rfl h1 h2⟩
 | kK k=>obtain ⟨b1,b2,rfl,h1,h2⟩:=hx;exact .inr ⟨_,_,_,rfl,fun _ _=>rfl,Ur hM hs k b1 b2 _ rfl h1 h2⟩
theorem nT.step {W:World} {tv ov:Value} {bs:List (Option Nat)} {vs xs:List Value} {x:Stp} {R:List Stp} (hM:nT d L size lv s O tv ov bs vs xs W) (hx:s.todo=x :: R):∃ v us,vs=us++[v]∧qD O W d x v∧nZ O W d R us∧us.length=R.length:=by
 have h:=hM.todo
 rw [hx] at h;obtain ⟨v,us,h1,h2,h3⟩:=h
 exact ⟨v,us,h1,h2,h3,h3.length⟩
end
theorem GB (z:Int) (w:World):(Instr.typeAssert (.iface 124 (.int .i64 z)) 20 124 true).run Tryz.prog w=.ok (.tuple #[.int .i64 z,.bool true]) w:=by kernel_rfl
theorem Jk (w:World):(Instr.typeAssert .nilIface 20 124 true).run Tryz.prog w=.ok (.tuple #[.int .i64 0,.bool false]) w:=by kernel_rfl
theorem Jl (p q:Addr) (x y z:Int) (older:List PanicEntry) (w:World) (hc:w.cell? p=some (.int .i64 x)) (hz:w.frozen? p=false) (hc':(w.setCell p (.int .i64 z)).cell? q=some (.int .i64 y)) (hz':(w.setCell p (.int .i64 z)).frozen? q=false) :
  CallsD Tryz.prog 99 #[.pointer (some p),.pointer (some q)] (.panicking ({ v:=.iface 124 (.int .i64 z),recovered:=false } :: older)) w fun e u' w' =>
   e=.returned (.tuple #[])∧u'=.panicking ({ v:=.iface 124 (.int .i64 z),recovered:=true } :: older)∧w'=(w.setCell p (.int .i64 z)).setCell q (.int .i64 101):=by
 refine callsD_of_wpS Tryz.func99 rfl fun c₀ cs hu=>?_
 apply wpS_seq
 apply wpS_region
 simp [wpOpsS,go_sem,recoverD,hu,GB,Tryz.ntmps99,Exit.thenS]
 apply wpS_seq
 apply wpS_region
 simp [wpOpsS,go_sem,Exit.thenS]
 refine wpS_cond (t:=true) (by simp [Act.eval,Array.replicate]) ?_;simp only [if_true]
 apply wpS_region
 simp [wpOpsS,go_sem,hc,hz,hc',hz',bodyPostS,results,Tryz.results99]
theorem Lh (p q:Addr) (w:World) :
  CallsD Tryz.prog 99 #[.pointer (some p),.pointer (some q)] .returning w fun e u' w'=>e=.returned (.tuple #[])∧u'=.returning∧w'=w:=by
 refine callsD_of_wpS Tryz.func99 rfl fun c₀ cs hu=>?_
 apply wpS_seq
 apply wpS_region
 simp [wpOpsS,go_sem,recoverD,hu,Jk,Tryz.ntmps99,Exit.thenS]
 apply wpS_seq
 apply wpS_region
 simp [wpOpsS,go_sem,Exit.thenS]
 refine wpS_cond (t:=false) (by simp [Act.eval,Array.replicate]) ?_;simp only [Bool.false_eq_true,if_false];refine wpS_of_wp (wp_skip ?_)
 cases c₀
 simp_all [bodyPostS,results,Tryz.results99]
end K
namespace K
open Go.Lib Go.Proofs.YtojoahlpgmnbnaaGreatDoor.U Go.Proofs.YtojoahlpgmnbnaaGreatDoor.S Go.Proofs.YtojoahlpgmnbnaaGreatDoor.T
inductive xg where
 | part (p:Pt)
 | bad (j:Nat)
variable (L:List aZ) (size:Nat)
def Comes (n:Nat) (s:St):xg→Prop
 | .part p=>∃ i f,Goes L size n s ⟨i,[],[root.add p f]⟩
 | .bad j=>uM L size n s j
variable {L size}
theorem Oh {n:Nat} {s:St} {o:xg} (h:Comes L size n s o) (ht:s.todo=[]):∃ p f,o=.part p∧s.opn=[root.add p f]:=by
 have hst:fC L size s=.stuck:=by unfold fC;rw [ht]
 cases o with
 | part p =>
  obtain ⟨i,f,h⟩:=h
  cases h with
  | refl=>exact ⟨p,f,rfl,rfl⟩
  | step h1 _=>rw [hst] at h1;cases h1
 | bad j =>
  obtain ⟨s',h,h2,_⟩:=h
  cases h with
  | refl=>rw [hst] at h2;cases h2
  | step h1 _=>rw [hst] at h1;cases h1
theorem Li {n:Nat} {s:St} {o:xg} (h:Comes L size n s o) (ht:s.todo≠[]):(fC L size s=.wrong∧o=.bad s.i)∨∃ m s1,n=m+1∧fC L size s=.go s1∧Comes L size m s1 o:=by
 cases o with
 | part p =>
  obtain ⟨i,f,h⟩:=h
  cases h with
  | refl=>exact absurd rfl ht
  | step h1 h2=>exact .inr ⟨_,_,rfl,h1,i,f,h2⟩
 | bad j =>
  obtain ⟨s',h,h2,h3⟩:=h
  cases h with
  | refl=>exact .inl ⟨h2,by rw [h3]⟩
  | step h1 h4=>exact .inr ⟨_,_,rfl,h1,s',h4,h2,h3⟩
def oQ (L:List aZ):xg:=match decl L (8*L.length+10) with
 | .ok p i=>if i+bE L i<L.length then .bad (i+bE L i) else .part p
 | .bad i=>.bad i
theorem Jm (hL:∀ t∈L,vB t):Comes L size (100*L.length+100) begun (oQ L):=by
 have h:=UQ size hL (8*L.length+10) (ae _)
 unfold oQ
 cases h1:decl L (8*L.length+10) with
 | bad i=>rw [h1] at h;exact h
 | ok p i =>
  rw [h1] at h;dsimp only at h ⊢
  by_cases h2:i+bE L i<L.length
  ·rw [ay h2] at h ⊢;exact h
  ·rw [ai h2] at h ⊢
   obtain ⟨_,f,h3⟩:=h
   exact ⟨_,f,h3⟩
end K
namespace K
open Go.RowKit
open Go.Lib hiding intOf
open U S T
section
variable {d:Nat} {L:List aZ} {size:Nat} {lv:Value} {s:St} {O:Nat→Prop}
theorem Rh {W:World} {x:Stp} {R:List Stp} (hM:Mem d L size lv s O W) (hs:s.todo=x :: R) :
  ∃ g c v O',W.cell? ⟨d,2,none⟩=some (.slice (some ⟨g,0,none⟩) (R.length+1) c)∧W.frozen? ⟨d,2,none⟩=false∧W.cell? ⟨g,R.length,none⟩=some v∧R.length+1≤c ∧
   qD O' (W.setCell ⟨d,2,none⟩ (.slice (some ⟨g,0,none⟩) R.length c)) d x v ∧
   Mem d L size lv { s with todo:=R } O' (W.setCell ⟨d,2,none⟩ (.slice (some ⟨g,0,none⟩) R.length c))∧bN O O' W (W.setCell ⟨d,2,none⟩ (.slice (some ⟨g,0,none⟩) R.length c)):=by
 obtain ⟨tv,ov,bs,vs,xs,hM⟩:=hM;have hb:=hM.blk;obtain ⟨v,us,rfl,hx,hR,hlen⟩:=nT.step hM hs;have hT:=hM.lQ;rw [hs] at hT;obtain ⟨g,c,rfl,_,hgl⟩:=hT.form (dX _)
 have hgc:R.length+1≤c:=by
  rcases hT.2 with ⟨_,h⟩|⟨_,_,_,h1,_,_,h2,_⟩
  ·exact absurd h (Nat.succ_ne_zero _)
  ·cases h1;exact h2
 have hcell:W.cell? ⟨g,R.length,none⟩=some v:=by
  rw [hT.cellAt R.length (by rw [aH];omega),aK (by omega),hlen,Nat.sub_self]
  rfl
 have aeG:Ty W g 1:=dF hT rfl;obtain ⟨W',wZ⟩:∃ W',W.setCell ⟨d,2,none⟩ (.slice (some ⟨g,0,none⟩) R.length c)=W':=⟨_,rfl⟩
 have hset:∀ k,k≠d→W'.heap[k]?=W.heap[k]?:=fun k hk=>by rw [← wZ];exact ak _ _ _ _ hk
 have XM:W'.heap[d]?=some (.cells #[lv,.int .i64 s.i,.slice (some ⟨g,0,none⟩) R.length c,ov] 123 (0,0)):=by rw [← wZ];exact az hb _
 have hsz:W'.heap.size=W.heap.size:=by rw [← wZ];simp
 have ne:∀ {k:Nat} {t:TypeId},Ty W k t→t≠123→k≠d:=fun h1 h2 e=>by rw [e] at h1;exact h2 (h1.one ⟨_,_,hb⟩)
 have ZI:O d:=(hM.own d).2 (.inl rfl);have hS:bN O O W W':=⟨by rw [← wZ];rfl,by rw [← wZ];rfl,by rw [← wZ];rfl,by omega,fun _ h=>.inl h,fun k hk hO=>hset k (fun e=>hO (e ▸ ZI))⟩
 refine ⟨g,c,v,O,by simp [World.cell?,hb],by simp [World.frozen?,hb],hcell,hgc,?_,?_,?_⟩
 ·rw [wZ];exact hx.stay hS
 ·rw [wZ]
  refine ⟨_,ov,bs,us,xs,XM,hM.words.stay hS,?_,hR.stay hS,iH hM.qx (fun k hk=>hset k (ne (dF hM.qx hk) (by decide))),gL.stay hS hM.opn (fun k hk=>hset k (ne (og hM.opn hk) (by decide))),hM.apart,fun k=>?_⟩
  ·exact iH (zQ hT (by rw [hlen,Nat.mul_one])) (fun k hk=>hset k (fun e=>by
    obtain rfl:g=k:=by simpa [Value.ownBlock] using hk
    exact ne aeG (by decide) e))
  ·exact hM.own k
 ·rw [wZ];exact hS
theorem Oi {W:World} (hM:Mem d L size lv s O W) (hs:s.todo=[]):∃ a c,W.cell? ⟨d,2,none⟩=some (.slice a 0 c):=by
 obtain ⟨tv,ov,bs,vs,xs,hM⟩:=hM;have hb:=hM.blk;have hT:=hM.lQ;rw [hs] at hT
 rcases hT.2 with ⟨rfl,_⟩|⟨g,c,cur,rfl,_⟩
 ·exact ⟨none,0,by simp [World.cell?,hb]⟩
 ·exact ⟨some ⟨g,0,none⟩,c,by simp [World.cell?,hb]⟩
end
end K
namespace K
open Go.Lib Go.Proofs.YtojoahlpgmnbnaaGreatDoor.U Go.Proofs.YtojoahlpgmnbnaaGreatDoor.S Go.Proofs.YtojoahlpgmnbnaaGreatDoor.T
def kQ (F E:Int→Int) (t:aZ):aZ:=⟨t.w,t.t,F t.f,E t.e⟩
mutual
def jB (F E:Int→Int):Pt→Pt
 | .mk k t f e ks=>.mk k t (F f) (E e) (mq F E ks)
def mq (F E:Int→Int):List Pt→List Pt
 | []=>[]
 | p :: r=>jB F E p :: mq F E r
end
theorem yT (F E:Int→Int):∀ l,mq F E l=l.map (jB F E)
 | []=>rfl
 | p :: r=>by rw [mq,yT F E r];rfl
def via {α β:Type} (h:α→β):Out α→Out β
 | .ok a i=>.ok (h a) i
 | .bad i=>.bad i
section
variable {α β γ:Type}
theorem je (o:Out α) (g:α→Nat→Out β) (h:β→γ):via h (o.next g)=o.next (fun a i=>via h (g a i)):=by cases o <;> rfl
theorem iU (o:Out α) (h:α→β) (g:β→Nat→Out γ):(via h o).next g=o.next (fun a i=>g (h a) i):=by cases o <;> rfl
theorem um (h:α→β) (a:α) (i:Nat):via h (.ok a i)=.ok (h a) i:=rfl
theorem mr (h:α→β) (i:Nat):via h (.bad i)=.bad i:=rfl
theorem ny (c:Prop) [Decidable c] (h:α→β) (a b:Out α):via h (if c then a else b)=if c then via h a else via h b:=by split <;> rfl
end
section
variable (F E:Int→Int) (L:List aZ)
theorem my (x:By) (i:Nat):bG (L.map (kQ F E)) x i=bG L x i:=by
 unfold bG;rw [dL];cases L[i]? <;> rfl
theorem xP (x:Int) (i:Nat):bT (L.map (kQ F E)) x i=bT L x i:=by
 unfold bT;rw [dL];cases L[i]? <;> rfl
theorem zW (i:Nat):dz (L.map (kQ F E)) i=dz L i:=by
 unfold dz;rw [dL];cases L[i]? <;> rfl
theorem Jn (i:Nat):fI (L.map (kQ F E)) i=fI L i:=by
 unfold fI;rw [dL];cases L[i]? <;> rfl
theorem ll (x:By) (i:Nat):bI (L.map (kQ F E)) x i=bI L x i:=by unfold bI;rw [my]
theorem oU (i:Nat):gK (L.map (kQ F E)) i=gK L i:=by unfold gK;rw [xP,zW]
theorem tu (i:Nat):bE (L.map (kQ F E)) i=bE L i:=by
 unfold bE
 rw [← List.map_drop];generalize L.drop i=l
 induction l with
 | nil=>rfl
 | cons t r ih =>
  simp only [List.map_cons,bJ]
  show (if (t.w==5)=true then _ else _:List aZ).length=_
  split
  ·simp only [aH];rw [ih]
  ·rfl
variable {F E}
variable (hF:F 0=0) (hE:E 0=0)
include hF in
theorem kM (i:Nat):bQ (L.map (kQ F E)) i=F (bQ L i):=by
 unfold bQ;rw [dL];cases L[i]? with
 | none=>exact hF.symm
 | some t=>rfl
include hE in
theorem GD (i:Nat):jY (L.map (kQ F E)) i=E (jY L i):=by
 unfold jY
 by_cases h:i=0
 ·rw [ay h,ay h];exact hE.symm
 ·rw [ai h,ai h,dL]
  cases L[i - 1]? with
  | none=>exact hE.symm
  | some t=>rfl
include hE in
theorem rC (k t:By) (f:Int) (ks:List Pt) (i:Nat):T.part (L.map (kQ F E)) k t (F f) (mq F E ks) i=via (jB F E) (T.part L k t f ks i):=by
 unfold T.part;rw [GD L hE,um,jB]
include hE in
theorem zX (k t:By) (f:Int) (i:Nat):T.part (L.map (kQ F E)) k t (F f) [] i=via (jB F E) (T.part L k t f [] i):=rC L hE k t f [] i
include hE in
theorem qQ (k t:By) (f:Int) (a:Pt) (i:Nat):T.part (L.map (kQ F E)) k t (F f) [jB F E a] i=via (jB F E) (T.part L k t f [a] i):=rC L hE k t f [a] i
include hE in
theorem zY (k t:By) (f:Int) (a b:Pt) (i:Nat):T.part (L.map (kQ F E)) k t (F f) [jB F E a,jB F E b] i=via (jB F E) (T.part L k t f [a,b] i):=rC L hE k t f [a,b] i
include hE in
theorem EX (k t:By) (f:Int) (a b c:Pt) (i:Nat):T.part (L.map (kQ F E)) k t (F f) [jB F E a,jB F E b,jB F E c] i=via (jB F E) (T.part L k t f [a,b,c] i):=rC L hE k t f [a,b,c] i
theorem wN (F E:Int→Int) (l:List Pt) (p:Pt):mq F E l++[jB F E p]=mq F E (l++[p]):=by rw [yT,yT,List.map_append];rfl
include hF hE in
theorem Jo (k:By) (l:List Pt):mG k (mq F E l)=jB F E (mG k l):=by
 cases l with
 | nil=>rw [mq,mG,jB,hF,hE];rfl
 | cons p r =>
  have hlast:(mq F E (p :: r)).getLast?=(p :: r).getLast?.map (jB F E):=by rw [yT,List.getLast?_map]
  obtain ⟨kk,t,f,e,ks⟩:=p;rw [mq,jB] at hlast ⊢;rw [mG,mG,jB,hlast]
  cases h:(Pt.mk kk t f e ks :: r).getLast? with
  | none=>rw [List.getLast?_eq_none_iff] at h;cases h
  | some q =>
   obtain ⟨a1,a2,a3,a4,a5⟩:=q;simp only [Option.map_some];rw [jB,mq,jB]
include hF hE
theorem tC:∀ (n i:Nat),typed (L.map (kQ F E)) n i=via (jB F E) (typed L n i)
 | 0,i=>rfl
 | n+1,i=>by
  simp only [typed,ny,je,my,ll,oU,tC n,iU,kM L hF,zX L hE,qQ L hE]
theorem EY (n:Nat) (k:By) (i:Nat):param (L.map (kQ F E)) n k i=via (jB F E) (param L n k i):=by
 simp only [param,je,oU,tC L hF hE,iU,kM L hF,qQ L hE]
theorem C8 (m:Nat):∀ (n i:Nat) (acc:List Pt),params (L.map (kQ F E)) m n i (mq F E acc)=via (mq F E) (params L m n i acc)
 | 0,i,acc=>rfl
 | n+1,i,acc=>by
  simp only [params,ny,je,my,ll,EY L hF hE,iU,wN,C8 m n,um]
theorem C9 (m:Nat):∀ (n i:Nat) (acc:List Pt),fields (L.map (kQ F E)) m n i (mq F E acc)=via (mq F E) (fields L m n i acc)
 | 0,i,acc=>rfl
 | n+1,i,acc=>by
  simp only [fields,ny,je,my,tu,EY L hF hE,iU,wN,C9 m n,um,mr]
omit hF hE in
structure aeH (F E:Int→Int) (L:List aZ) (n:Nat):Prop where
 expr:∀ than i,expr (L.map (kQ F E)) n than i=via (jB F E) (expr L n than i)
 exprs:∀ than f a i,exprs (L.map (kQ F E)) n than (F f) (jB F E a) i=via (jB F E) (exprs L n than f a i)
 cu:∀ i,cu (L.map (kQ F E)) n i=via (jB F E) (cu L n i)
 tails:∀ f a i,tails (L.map (kQ F E)) n (F f) (jB F E a) i=via (jB F E) (tails L n f a i)
 operand:∀ i,operand (L.map (kQ F E)) n i=via (jB F E) (operand L n i)
 args:∀ i acc,args (L.map (kQ F E)) n i (mq F E acc)=via (mq F E) (args L n i acc)
omit hF hE in
theorem map_mk (F E:Int→Int) (k t:By) (f e:Int) (ks:List Pt):Pt.mk k t (F f) (E e) (mq F E ks)=jB F E (.mk k t f e ks):=by rw [jB]
omit hF hE in
theorem UU (F E:Int→Int) (k t:By) (f e:Int) (a:Pt):Pt.mk k t (F f) (E e) [jB F E a]=jB F E (.mk k t f e [a]):=map_mk F E k t f e [a]
omit hF hE in
theorem MX (F E:Int→Int) (k t:By) (f e:Int) (a b:Pt):Pt.mk k t (F f) (E e) [jB F E a,jB F E b]=jB F E (.mk k t f e [a,b]):=map_mk F E k t f e [a,b]
theorem aaT:∀ n,aeH F E L n
 | 0=>⟨fun _ _=>by simp only [expr,mr],fun _ _ _ _=>by simp only [exprs,mr],fun _=>by simp only [cu,mr],fun _ _ _=>by simp only [tails,mr],fun _=>by simp only [operand,mr],fun _ _=>by simp only [args,mr]⟩
 | n+1=>by
  have ih:=aaT n
  have a0:∀ j,args (L.map (kQ F E)) n j []=via (mq F E) (args L n j []):=fun j=>ih.args j []
  have hl:(L.map (kQ F E)).length=L.length:=fB _
  refine ⟨fun than i=>?_,fun than f a i=>?_,fun i=>?_,fun f a i=>?_,fun i=>?_,fun i acc=>?_⟩
  ·simp only [expr,je,ih.cu,iU,kM L hF,ih.exprs]
  ·simp only [exprs,ny,je,ih.expr,iU,zW,Jn,GD L hE,MX,ih.exprs,um,hl]
  ·simp only [cu,ny,je,my,ih.cu,ih.operand,ih.tails,iU,kM L hF,qQ L hE]
  ·simp only [tails,ny,je,my,ll,oU,ih.expr,iU,GD L hE,UU,MX,ih.tails,um]
  ·simp only [operand,ny,je,my,xP,zW,ll,oU,ih.expr,tC L hF hE,a0,iU,kM L hF,rC L hE,zX L hE,qQ L hE,zY L hE,um]
  ·simp only [args,ny,je,my,ll,ih.expr,iU,wN,ih.args,um]
theorem yU (n i:Nat):iX (L.map (kQ F E)) n i=via (jB F E) (iX L n i):=by
 simp only [iX,je,ll,oU,tC L hF hE,iU,kM L hF,qQ L hE]
omit hF hE in
structure aeI (F E:Int→Int) (L:List aZ) (n:Nat):Prop where
 block:∀ i,block (L.map (kQ F E)) n i=via (jB F E) (block L n i)
 stmts:∀ i acc,stmts (L.map (kQ F E)) n i (mq F E acc)=via (mq F E) (stmts L n i acc)
 branch:∀ i,branch (L.map (kQ F E)) n i=via (jB F E) (branch L n i)
 stmt:∀ i,stmt (L.map (kQ F E)) n i=via (jB F E) (stmt L n i)
theorem aaU:∀ n,aeI F E L n
 | 0=>⟨fun _=>by simp only [block,mr],fun _ _=>by simp only [stmts,mr],fun _=>by simp only [branch,mr],fun _=>by simp only [stmt,mr]⟩
 | n+1=>by
  have ih:=aaU n;have he:=aaT L hF hE n
  have s0:∀ j,stmts (L.map (kQ F E)) n j []=via (mq F E) (stmts L n j []):=fun j=>ih.stmts j []
  refine ⟨fun i=>?_,fun i acc=>?_,fun i=>?_,fun i=>?_⟩
  ·simp only [block,je,ll,tu,s0,iU,kM L hF,rC L hE]
  ·simp only [stmts,ny,je,my,tu,ih.stmt,iU,wN,ih.stmts,um,mr]
  ·simp only [branch,ny,je,my,ll,he.expr,ih.block,ih.branch,iU,kM L hF,zY L hE,EX L hE]
  ·simp only [stmt,ny,je,my,xP,yU L hF hE,ih.branch,ih.block,he.expr,iU,kM L hF,zX L hE,qQ L hE,zY L hE]
theorem Ri (n:Nat):decl (L.map (kQ F E)) n=via (jB F E) (decl L n):=by
 have hb:=aaU L hF hE n
 have p0:∀ j,params (L.map (kQ F E)) n n j []=via (mq F E) (params L n n j []):=fun j=>C8 L hF hE n n j []
 have f0:∀ j,fields (L.map (kQ F E)) n n j []=via (mq F E) (fields L n n j []):=fun j=>C9 L hF hE n n j []
 have e0:∀ m,(.ok [] m:Out (List Pt))=via (mq F E) (.ok [] m):=fun m=>rfl
 have e1:∀ x m,(.ok [jB F E x] m:Out (List Pt))=via (mq F E) (.ok [x] m):=fun x m=>rfl
 have hf:rX (L.map (kQ F E)) n 0=via (jB F E) (rX L n 0):=by
  simp only [rX,je,my,ll,oU,p0,tC L hF hE,hb.block,kM L hF,iU]
  congr 1;funext _ j;congr 1;funext s k;congr 1;funext _ m
  rw [show (if bG L [41] m then (.ok [] (m+1):Out (List Pt)) else via (mq F E) (params L n n m []))=via (mq F E) (if bG L [41] m then .ok [] (m+1) else params L n n m []) by split <;> rfl,iU]
  congr 1;funext ps o
  rw [show (if bG L [123] o then (.ok [] o:Out (List Pt)) else (typed L n o).next fun x q=>.ok [jB F E x] q)=via (mq F E) (if bG L [123] o then .ok [] o else (typed L n o).next fun x q=>.ok [x] q) by
   split
   ·rfl
   ·rw [je];rfl,iU]
  congr 1;funext rs q
  congr 1;funext b r
  rw [Jo hF hE,Jo hF hE,EX L hE]
 have hr:record (L.map (kQ F E)) n 0=via (jB F E) (record L n 0):=by
  simp only [record,je,ll,oU,tu,f0,iU,kM L hF,rC L hE]
 simp only [decl,my,hf,hr,yU L hF hE,ny,mr]
end
def xg.map (F E:Int→Int):xg→xg
 | .part p=>.part (jB F E p)
 | .bad j=>.bad j
theorem Rj {F E:Int→Int} (L:List aZ) (hF:F 0=0) (hE:E 0=0):oQ (L.map (kQ F E))=(oQ L).map F E:=by
 unfold oQ
 rw [Ri L hF hE,fB]
 cases decl L (8*L.length+10) with
 | bad i=>rfl
 | ok p i =>
  simp only [um,tu]
  split <;> rfl
def XZ:Pt→Int
 | .mk _ _ _ e _=>e
def lastOf (a:Nat) (p:Pt):Nat:=if XZ p=0 then a else (XZ p).toNat
mutual
def Wi (L:List aZ):Pt→Nat→Nat→Prop
 | .mk _ _ f e ks,a,b=>(f=0∧e=0∧ks=[])∨∃ i j:Nat,f=(i:Int)+1∧e=(j:Int)∧a≤i∧i<j∧j≤b∧j≤L.length∧bT L 5 (j - 1)=false∧zZ L ks i j
def zZ (L:List aZ):List Pt→Nat→Nat→Prop
 | [],_,_=>True
 | p :: r,a,b=>Wi L p a b∧zZ L r (lastOf a p) b
end
def Idx (L:List aZ):Prop:=∀ (i:Nat) (t:aZ),L[i]?=some t→t.f=(i:Int)+1∧t.e=(i:Int)+1
structure Ends (L:List aZ) (i j:Nat):Prop where
 lt:i<j
 le:j≤L.length
 ns:bT L 5 (j - 1)=false
structure Rd (L:List aZ) (i j:Nat) (p:Pt):Prop extends Ends L i j where
 wi:Wi L p i j
 nz:0<XZ p
section
variable {α β:Type} {L:List aZ} {i j a b a' b':Nat} {p:Pt}
theorem bV {o:Out α} {f:α→Nat→Out β} {y:β} {k:Nat}:o.next f=.ok y k ↔ ∃ x i,o=.ok x i∧f x i=.ok y k:=by
 cases o with
 | ok x i=>exact Iff.intro (fun h=>⟨x,i,rfl,h⟩) (by rintro ⟨_,_,h1,h2⟩;cases h1;exact h2)
 | bad i=>exact Iff.intro (fun h=>by cases h) (by rintro ⟨_,_,h1,_⟩;cases h1)
theorem Ends.mono (h:Ends L i j) (hi:a≤i):Ends L a j:=⟨Nat.lt_of_le_of_lt hi h.lt,h.le,h.ns⟩
theorem Wi.mono:∀ {p:Pt},Wi L p a b→a'≤a→b≤b'→Wi L p a' b'
 | .mk k t f e ks,h,ha,hb=>by
  unfold Wi at h ⊢
  rcases h with h|⟨i,j,h1,h2,h3,h4,h5,h6⟩
  ·exact .inl h
  ·exact .inr ⟨i,j,h1,h2,aJ ha h3,h4,aJ h5 hb,h6⟩
theorem Wi.last:∀ {p:Pt},Wi L p a b→lastOf a p≤max a b
 | .mk k t f e ks,h=>by
  unfold Wi at h
  rcases h with ⟨h1,h2,h3⟩|⟨i,j,h1,h2,h3,h4,h5,h6⟩
  ·subst h1 h2
   show (if (0:Int)=0 then a else _)≤_
   rw [ay rfl];omega
  ·subst h2
   show (if (j:Int)=0 then a else (j:Int).toNat)≤_
   split <;> omega
theorem Jp (h:a'≤a):lastOf a' p≤lastOf a p:=by unfold lastOf;split <;> omega
theorem zZ.mono:∀ {l:List Pt} {a a':Nat},zZ L l a b→a'≤a→b≤b'→zZ L l a' b'
 | [],_,_,_,_,_=>by unfold zZ;trivial
 | p :: r,_,_,h,ha,hb=>by
  unfold zZ at h ⊢
  exact ⟨h.1.mono ha hb,h.2.mono (Jp ha) hb⟩
theorem zZ.nil:zZ L [] a b:=by unfold zZ;trivial
theorem zZ.snoc {m:Nat}:∀ {l:List Pt} {a:Nat},zZ L l a m→Wi L p m b→a≤m→m≤b→zZ L (l++[p]) a b
 | [],a,_,h,ha,_=>by
  show zZ L [p] a b
  unfold zZ
  exact ⟨h.mono ha (ae _),.nil⟩
 | q :: r,a,hl,h,ha,hb=>by
  show zZ L (q :: (r++[p])) a b
  unfold zZ at hl ⊢
  have h2:=hl.1.last
  exact ⟨hl.1.mono (ae _) hb,hl.2.snoc h (by omega) hb⟩
theorem zZ.one (h:Wi L p a b):zZ L [p] a b:=by unfold zZ;exact ⟨h,.nil⟩
theorem zZ.two {q:Pt} {m:Nat} (h:Wi L p a m) (k:Wi L q m b) (ha:a≤m) (hb:m≤b):zZ L [p,q] a b:=zZ.snoc (l:=[p]) (.one h) k ha hb
section
variable (hI:Idx L)
include hI
structure RdE (L:List aZ) (n:Nat):Prop where
 expr:∀ than i p j,expr L n than i=.ok p j→Rd L i j p
 exprs:∀ than f a i p j i0,exprs L n than f a i=.ok p j→f=bQ L i0→Rd L i0 i a→Rd L i0 j p
 cu:∀ i p j,cu L n i=.ok p j→Rd L i j p
 tails:∀ f a i p j i0,tails L n f a i=.ok p j→f=bQ L i0→Rd L i0 i a→Rd L i0 j p
 operand:∀ i p j,operand L n i=.ok p j→Rd L i j p
 args:∀ i acc l j,args L n i acc=.ok l j→Ends L i j∧∀ a,a≤i→zZ L acc a i→zZ L l a j
structure RdS (L:List aZ) (n:Nat):Prop where
 block:∀ i p j,block L n i=.ok p j→Rd L i j p
 stmts:∀ i acc l j,stmts L n i acc=.ok l j→i≤j∧∀ a,a≤i→zZ L acc a i→zZ L l a j
 branch:∀ i p j,branch L n i=.ok p j→Rd L i j p
 stmt:∀ i p j,stmt L n i=.ok p j→Rd L i j p
end
end
end K
namespace Q
open Go.Lib Go.Proofs.YtojoahlpgmnbnaaGreatDoor.U Go.Proofs.YtojoahlpgmnbnaaGreatDoor.S
def kw (x:By):Bool:=x==[102,117,110,99]||x==[118,97,114]||x==[116,121,112,101]
def mV (l:By):Bool:=kw (l.takeWhile rR)
def yB (s:By) (i:Nat):Bool:=(decide (i=0)||decide (s[i - 1]?=some 10))&&mV (s.drop i)
theorem Rk {c:UInt8} (h:mh c=false) (x:By):kw (c :: x)=false:=by
 unfold kw
 have h1:¬ c=102:=by rintro rfl;simp [mh] at h
 have h2:¬ c=118:=by rintro rfl;simp [mh] at h
 have h3:¬ c=116:=by rintro rfl;simp [mh] at h
 simp [h1,h2,h3]
theorem Aa {c:UInt8} (h:mh c=false) (x:By):mV (c :: x)=false:=by
 unfold mV
 rw [bJ]
 split
 ·exact Rk h _
 ·rfl
theorem Da (a b:By):mV (a++10 :: b)=mV a:=by unfold mV;rw [Mr (show rR 10=false by decide)]
theorem Lj {s:By} {a:Nat} {t:aZ} {r:List aZ} (h:yC s a (t :: r)):(a:Int)≤t.f:=by
 cases h with
 | cons h _ _=>rw [h.from_];have:=h.le;omega
theorem Ll {c:UInt8} (h:S.blank c=true):mh c=false:=by
 unfold S.blank at h
 simp at h
 rcases h with ((rfl|rfl)|rfl)|rfl <;> decide
theorem Lm (r:Bool) (l:By):(fH r l=[]→mV l=false)∧∀ t u,fH r l=t :: u→(0<t.f→mV l=false)∧(¬ 0<t.f→mV l=kw t.t):=by
 cases l with
 | nil=>exact ⟨fun _=>rfl,fun t u h=>by cases h⟩
 | cons c x =>
  have hri:∀ p,p≤(c :: x).length→yC (c :: x) p (jK r (c :: x).length ((c :: x).drop p) p false):=fun p hp =>
   nK r (c :: x) _ p p false (ae _) hp (BG _ _)
  have Gs:∀ p,1≤p→p≤(c :: x).length→mh c=false→∀ L,jK r (c :: x).length ((c :: x).drop p) p false=L →
    (L=[]→mV (c :: x)=false)∧∀ t u,L=t :: u→(0<t.f→mV (c :: x)=false)∧(¬ 0<t.f→mV (c :: x)=kw t.t):=fun p h1 h2 h3 L hL=>by
   refine ⟨fun _=>Aa h3 x,fun t u h=>⟨fun _=>Aa h3 x,fun h4=>?_⟩⟩;have:=hri p h2;rw [hL,h] at this;have:=Lj this
   omega
  have hsc:fH r (c :: x)=jK r ((c :: x).length+1) (c :: x) 0 false:=rfl;simp only [jK] at hsc;rw [ai (by simp)] at hsc
  by_cases hb:S.blank c=true
  ·rw [ay hb] at hsc
   rw [hsc]
   exact Gs 1 (ae _) (by simp) (Ll hb) _ rfl
  ·rw [ai hb] at hsc
   by_cases hk:0<eH (c :: x)
   ·rw [ay hk,bz] at hsc
    rw [hsc];refine Gs _ hk (ug _) ?_ _ rfl
    match x,hk with
    | [],hk=>simp [eH] at hk
    | b :: y,hk =>
     simp only [eH] at hk
     split at hk
     ·rename_i h;rw [h.1];rfl
     ·omega
   ·rw [ai hk] at hsc
    rw [hsc];refine ⟨fun h=>by (cases h),fun t u h=>?_⟩;simp only [List.cons.injEq] at h;obtain ⟨rfl,_⟩:=h;refine ⟨fun h=>by simp at h,fun _=>?_⟩;simp only;have hwb:=(lM r (l:=c :: x) (by simp)).1
    by_cases hl:mh c=true
    ·have hn:gW (c :: x)=(x.takeWhile rR).length+1:=by simp only [gW,hl,if_true];omega
     have hw:(eX r (c :: x)).2=gW (c :: x):=by
      unfold eX
      rw [ay (by omega)]
     rw [hw,hn,List.take_succ_cons,Ms]
     unfold mV
     rw [bJ,ay (by unfold rR;rw [hl];rfl)]
    ·have hl':mh c=false:=by simpa using hl
     obtain ⟨m,hm⟩:∃ m,(eX r (c :: x)).2=m+1:=⟨(eX r (c :: x)).2 - 1,by omega⟩;rw [hm,List.take_succ_cons,Rk hl',Aa hl']
end Q
namespace K
open Go.Lib Go.Proofs.YtojoahlpgmnbnaaGreatDoor.U Go.Proofs.YtojoahlpgmnbnaaGreatDoor.S Go.Proofs.YtojoahlpgmnbnaaGreatDoor.T
theorem X0:∀ x∈mi,zJ x=true∨mh (x.headD 0)=false:=by decide
theorem GG:∀ x∈mi,kE (x.headD 0)=false∧x.headD 0≠34∧x.headD 0≠59∧x≠[]:=by decide
theorem Db:∀ x∈weight,mh (x.headD 0)=false∧kE (x.headD 0)=false∧x.headD 0≠34∧x.headD 0≠59∧x≠[]:=by decide
theorem Oj (right:Bool) (c:UInt8) (r:By) (f e:Int):vB ⟨(eX right (c :: r)).1,(c :: r).take (eX right (c :: r)).2,f,e⟩:=by
 have hb:=lM right (l:=c :: r) (by simp);obtain ⟨k,hk⟩:∃ k,(eX right (c :: r)).2=k+1:=⟨(eX right (c :: r)).2 - 1,by omega⟩
 have hd:((c :: r).take (eX right (c :: r)).2).headD 0=c:=by rw [hk];rfl
 have hw:eX right (c :: r)=eX right (c :: r):=rfl;obtain ⟨x,hx⟩:∃ x,(c :: r).take (eX right (c :: r)).2=x:=⟨_,rfl⟩;rw [hx] at hd ⊢
 unfold eX at hx ⊢
 split at hx
 ·rename_i h1
  rw [ay h1];dsimp only at hx ⊢;rw [hx]
  have hl:mh c=true:=by
   by_cases h:mh c=true
   ·exact h
   ·have h2:gW (c :: r)=0:=by simp only [gW];rw [ai h]
    omega
  refine ⟨by dsimp only;split <;> decide,fun h=>?_,fun h=>?_⟩
  ·rcases X0 x h with h2|h2
   ·dsimp only;rw [ay h2];exact .inr rfl
   ·rw [hd,hl] at h2;cases h2
  ·have h2:=(Db x h).1
   rw [hd,hl] at h2;cases h2
 ·rename_i h1
  rw [ai h1]
  split at hx
  ·rename_i h2
   rw [ay h2]
   have hl:kE c=true:=by
    unfold nA at h2
    by_cases h:kE c=true
    ·exact h
    ·rw [bJ,ai h] at h2;exact absurd h2 (by decide)
   refine ⟨(by decide:(1:Int)≠-1),fun h=>?_,fun h=>?_⟩
   ·have h3:=(GG x h).1;rw [hd,hl] at h3;cases h3
   ·have h3:=(Db x h).2.1;rw [hd,hl] at h3;cases h3
  ·rename_i h2
   rw [ai h2]
   split at hx
   ·rename_i h3
    rw [ay h3]
    have hl:c=34:=by
     by_cases h:c=34
     ·exact h
     ·have h2:gI (c :: r)=0:=by simp only [gI];rw [ai h]
      omega
    refine ⟨(by decide:(2:Int)≠-1),fun h=>?_,fun h=>?_⟩
    ·exact absurd (hd.trans hl) (GG x h).2.1
    ·exact absurd (hd.trans hl) (Db x h).2.2.1
   ·rename_i h3
    rw [ai h3]
    split at hx
    ·rename_i h4
     rw [ay h4]
     have hl:c=59:=by simpa using h4
     refine ⟨(by decide:(5:Int)≠-1),fun h=>?_,fun h=>?_⟩
     ·exact absurd (hd.trans hl) (GG x h).2.2.1
     ·exact absurd (hd.trans hl) (Db x h).2.2.2.1
    ·rename_i h4
     rw [ai h4]
     exact ⟨(by decide:(4:Int)≠-1),fun _=>.inl rfl,fun _=>rfl⟩
theorem EZ (f e:Int):vB ⟨5,[],f,e⟩:=⟨(by decide:(5:Int)≠-1),fun h=>absurd rfl (GG [] h).2.2.2,fun h=>absurd rfl (Db [] h).2.2.2.2⟩
theorem rD (right:Bool):∀ (n:Nat) (l:By) (pos:Nat) (ended:Bool),∀ t∈jK right n l pos ended,vB t
 | 0,_,_,_,t,h=>by cases h
 | n+1,[],pos,ended,t,h=>by
  simp only [jK] at h
  split at h
  ·rw [List.mem_singleton.1 h];exact EZ _ _
  ·cases h
 | n+1,c :: r,pos,ended,t,h=>by
  simp only [jK] at h
  split at h
  ·rcases bA.1 h with rfl|h
   ·exact EZ _ _
   ·exact rD right n _ _ _ t h
  ·split at h
   ·exact rD right n _ _ _ t h
   ·split at h
    ·exact rD right n _ _ _ t h
    ·rcases bA.1 h with rfl|h
     ·exact Oj right c r _ _
     ·exact rD right n _ _ _ t h
theorem E4 (right:Bool) (l:By):∀ t∈fH right l,vB t:=rD right _ _ _ _
def wt (t:aZ):Int × By:=(t.w,t.t)
def FF (L:List aZ) (x:Int):Int:=if x≤0 then 0 else match L[x.toNat - 1]? with
 | some t=>t.f
 | none=>0
def EE (L:List aZ) (x:Int):Int:=if x≤0 then 0 else match L[x.toNat - 1]? with
 | some t=>t.e
 | none=>0
def Rl (L:List aZ):List aZ:=L.mapIdx fun i t=>⟨t.w,t.t,(i:Int)+1,(i:Int)+1⟩
theorem aaV {L:List aZ} {i:Nat} {t:aZ} (h:L[i]?=some t):FF L ((i:Int)+1)=t.f∧EE L ((i:Int)+1)=t.e:=by
 have h1:((i:Int)+1).toNat - 1=i:=by omega
 unfold FF EE
 rw [ai (by omega),ai (by omega),h1,h]
 exact ⟨rfl,rfl⟩
theorem UW {L L':List aZ} (h:L'.map wt=L.map wt):(Rl L).map (kQ (FF L') (EE L'))=L':=by
 refine List.ext_getElem? fun i=>?_
 have h1:=congrArg (fun l:List (Int × By)=>l[i]?) h;rw [dL,dL] at h1
 unfold Rl
 rw [dL,List.getElem?_mapIdx]
 cases h2:L[i]? with
 | none=>rw [h2] at h1;cases h3:L'[i]? with
  | none=>rfl
  | some u=>rw [h3] at h1;cases h1
 | some t=>rw [h2] at h1;cases h3:L'[i]? with
  | none=>rw [h3] at h1;cases h1
  | some u =>
   rw [h3] at h1;obtain ⟨h4,h5⟩:=aaV h3;simp only [Option.map_some,kQ,bW];simp only [Option.map_some,bW,wt,Prod.mk.injEq] at h1;rw [h4,h5,← h1.1,← h1.2]
theorem Rm {L L':List aZ} (h:L'.map wt=L.map wt):oQ L'=(oQ (Rl L)).map (FF L') (EE L'):=by
 rw [← Rj (Rl L) (F:=FF L') (E:=EE L') rfl rfl,UW h]
structure Ups (F E:Int→Int) (n:Nat) (lo hi:Int):Prop where
 ff:∀ x y:Nat,1≤x→x≤y→y≤n→F x≤F y
 fe:∀ x y:Nat,1≤x→x≤y→y≤n→F x≤E y
 ef:∀ x y:Nat,1≤x→x<y→y≤n→E x≤F y
 ee:∀ x y:Nat,1≤x→x≤y→y≤n→E x≤E y
 lo:∀ x:Nat,1≤x→x≤n→lo≤F x
 hi:∀ x:Nat,1≤x→x≤n→E x≤hi
 pos:∀ x:Nat,1≤x→x≤n→0<E x
section
variable {F E:Int→Int} {L:List aZ} {lo hi:Int} (U:Ups F E L.length lo hi) (hF:F 0=0) (hE:E 0=0)
include U hF hE
end
theorem Jq {s:By}:∀ {L:List aZ} {a:Nat},yC s a L→∀ (i:Nat) (t:aZ),L[i]?=some t→(a:Int)≤t.f∧t.f≤t.e∧t.e≤(s.length:Int)∧((t.w=5∧t.t=[])∨(t.t≠[]∧t.f<t.e∧t.f<(s.length:Int)))
 | [],_,_,i,t,h=>by cases h
 | u :: r,a,hr,i,t,h=>by
  cases hr with
  | cons hk hl hr =>
   rename_i f e
   cases i with
   | zero =>
    cases h
    have h1:=hk.from_;have h2:=hk.to_;have h3:=hk.le;have h4:=hk.fe;have h5:=hk.end_;refine ⟨by omega,by omega,by omega,?_⟩
    rcases hk.text with h6|h6
    ·exact .inl ⟨h6.1,h6.2.1⟩
    ·refine .inr ⟨h6.1,?_,?_⟩
     ·have:f<e:=by
       by_cases h7:f<e
       ·exact h7
       ·have:e - f=0:=by omega
        rw [this] at h6;exact absurd h6.2 (by rw [List.take_zero];exact h6.1)
      omega
     ·have:f<s.length:=by
       by_cases h7:f<s.length
       ·exact h7
       ·rw [gD (by omega)] at h6;exact absurd h6.2 (by rw [List.take_nil];exact h6.1)
      omega
   | succ i =>
    have h1:=Jq hr i t h;have h3:=hk.le;have h4:=hk.fe
    exact ⟨by omega,h1.2⟩
def gB:Pt:=.mk [] [] 0 0 []
def kT (L:List aZ) (size:Nat):Pt × Int × Int:=match oQ L with
 | .bad j=>(gB,(tok L size j).f,101)
 | .part p=>if 40<deep p then (gB,0,22) else (p,0,0)
mutual
def Nn:Pt→Prop
 | .mk k _ _ _ ks=>k≠[]∧pO ks
def pO:List Pt→Prop
 | []=>True
 | p :: r=>Nn p∧pO r
end
theorem pO.nil:pO []:=by unfold pO;trivial
theorem pO.cons {p:Pt} {r:List Pt} (h:Nn p) (k:pO r):pO (p :: r):=by unfold pO;exact ⟨h,k⟩
theorem pO.snoc:∀ {l:List Pt} {p:Pt},pO l→Nn p→pO (l++[p])
 | [],_,_,h=>.cons h .nil
 | q :: r,_,hl,h=>by
  unfold pO at hl
  exact .cons hl.1 (pO.snoc hl.2 h)
theorem E5 {k t:By} {f e:Int} {ks:List Pt} (hk:k≠[]) (h:pO ks):Nn (.mk k t f e ks):=by unfold Nn;exact ⟨hk,h⟩
section
variable {L:List aZ}
theorem iI {k t:By} {f:Int} {ks:List Pt} {j m:Nat} {p:Pt} (h:T.part L k t f ks j=.ok p m) (hk:k≠[]) (hs:pO ks):Nn p:=by
 unfold T.part at h;cases h;exact E5 hk hs
theorem rE:∀ (n i:Nat) {p:Pt} {j:Nat},typed L n i=.ok p j→Nn p
 | 0,_,_,_,h=>by cases h
 | n+1,i,p,j,h=>by
  unfold typed at h
  split at h
  ·obtain ⟨x,k,h2,h3⟩:=bV.1 h
   exact iI h3 (by decide) (.cons (rE n _ h2) .nil)
  ·split at h
   ·obtain ⟨u,k,h2,h3⟩:=bV.1 h
    obtain ⟨x,m,h4,h5⟩:=bV.1 h3
    exact iI h5 (by decide) (.cons (rE n _ h4) .nil)
   ·obtain ⟨s,k,h2,h3⟩:=bV.1 h
    exact iI h3 (by decide) .nil
theorem Jr {n i j:Nat} {k:By} {p:Pt} (hk:k≠[]) (h:param L n k i=.ok p j):Nn p:=by
 unfold param at h
 obtain ⟨s,m,h2,h3⟩:=bV.1 h;obtain ⟨x,o,h4,h5⟩:=bV.1 h3
 exact iI h5 hk (.cons (rE n _ h4) .nil)
theorem E6 (m:Nat):∀ (n i:Nat) (acc:List Pt) {l:List Pt} {j:Nat},params L m n i acc=.ok l j→pO acc→pO l
 | 0,_,_,_,_,h,_=>by cases h
 | n+1,i,acc,l,j,h,ha=>by
  unfold params at h
  obtain ⟨p,k,h2,h3⟩:=bV.1 h;have hp:=Jr (by decide) h2
  split at h3
  ·cases h3;exact ha.snoc hp
  ·obtain ⟨u,m',h4,h5⟩:=bV.1 h3
   exact E6 m n m' _ h5 (ha.snoc hp)
theorem E7 (m:Nat):∀ (n i:Nat) (acc:List Pt) {l:List Pt} {j:Nat},fields L m n i acc=.ok l j→pO acc→pO l
 | 0,_,_,_,_,h,_=>by cases h
 | n+1,i,acc,l,j,h,ha=>by
  unfold fields at h
  split at h
  ·cases h;exact ha
  ·obtain ⟨p,k,h2,h3⟩:=bV.1 h
   have hp:=Jr (by decide) h2
   split at h3
   ·cases h3
   ·exact E7 m n _ _ h3 (ha.snoc hp)
structure NnE (L:List aZ) (n:Nat):Prop where
 expr:∀ than i p j,expr L n than i=.ok p j→Nn p
 exprs:∀ than f a i p j,exprs L n than f a i=.ok p j→Nn a→Nn p
 cu:∀ i p j,cu L n i=.ok p j→Nn p
 tails:∀ f a i p j,tails L n f a i=.ok p j→Nn a→Nn p
 operand:∀ i p j,operand L n i=.ok p j→Nn p
 args:∀ i acc l j,args L n i acc=.ok l j→pO acc→pO l
theorem nnE:∀ n,NnE L n
 | 0=>⟨fun _ _ _ _ h=>by simp only [expr] at h;(cases h),fun _ _ _ _ _ _ h=>by simp only [exprs] at h;(cases h),fun _ _ _ h=>by simp only [cu] at h;(cases h),fun _ _ _ _ _ h=>by simp only [tails] at h;(cases h),fun _ _ _ h=>by simp only [operand] at h;(cases h),fun _ _ _ _ h=>by simp only [args] at h;(cases h)⟩
 | n+1=>by
  have ih:=nnE n
  refine ⟨fun than i p j h=>?_,fun than f a i p j h ha=>?_,fun i p j h=>?_,fun f a i p j h ha=>?_,fun i p j h=>?_,fun i acc l j h hacc=>?_⟩
  ·rw [expr] at h
   obtain ⟨a,k,h2,h3⟩:=bV.1 h
   exact ih.exprs _ _ _ _ _ _ h3 (ih.cu _ _ _ h2)
  ·rw [exprs] at h
   split at h
   ·obtain ⟨b,k,h2,h3⟩:=bV.1 h
    exact ih.exprs _ _ _ _ _ _ h3 (E5 (by decide) (.cons ha (.cons (ih.expr _ _ _ _ h2) .nil)))
   ·cases h;exact ha
  ·rw [cu] at h
   have un:∀ x:By,((cu L n (i+1)).next fun e j=>T.part L jL x (bQ L i) [e] j)=.ok p j→Nn p:=fun x h=>by
    obtain ⟨e,k,h2,h3⟩:=bV.1 h
    exact iI h3 (by decide) (.cons (ih.cu _ _ _ h2) .nil)
   repeat' split at h
   ·exact un _ h
   ·exact un _ h
   ·exact un _ h
   ·exact un _ h
   ·obtain ⟨a,k,h2,h3⟩:=bV.1 h
    exact ih.tails _ _ _ _ _ h3 (ih.operand _ _ _ h2)
  ·rw [tails] at h
   split at h
   ·obtain ⟨s,k,h2,h3⟩:=bV.1 h
    exact ih.tails _ _ _ _ _ h3 (E5 (by decide) (.cons ha .nil))
   ·split at h
    ·obtain ⟨e,k,h2,h3⟩:=bV.1 h
     obtain ⟨u,m,h5,h6⟩:=bV.1 h3
     exact ih.tails _ _ _ _ _ h6 (E5 (by decide) (.cons ha (.cons (ih.expr _ _ _ _ h2) .nil)))
    ·cases h;exact ha
  ·rw [operand] at h
   split at h
   ·exact iI h (by decide) .nil
   ·split at h
    ·exact iI h (by decide) .nil
    ·split at h
     ·obtain ⟨e,k,h2,h3⟩:=bV.1 h
      obtain ⟨u,m,h5,h6⟩:=bV.1 h3
      cases h6
      exact ih.expr _ _ _ _ h2
     ·obtain ⟨s,k,h2,h3⟩:=bV.1 h
      split at h3
      ·exact iI h3 (by decide) .nil
      ·split at h3
       ·obtain ⟨x,m,h5,h6⟩:=bV.1 h3
        obtain ⟨u,o,h7,h8⟩:=bV.1 h6
        exact iI h8 (by decide) (.cons (rE n _ h5) .nil)
       ·split at h3
        ·obtain ⟨x,m,h5,h6⟩:=bV.1 h3
         obtain ⟨u,o,h7,h8⟩:=bV.1 h6;obtain ⟨e,q,h9,h10⟩:=bV.1 h8;obtain ⟨u2,r,h11,h12⟩:=bV.1 h10
         exact iI h12 (by decide) (.cons (rE n _ h5) (.cons (ih.expr _ _ _ _ h9) .nil))
        ·split at h3
         ·exact iI h3 (by decide) .nil
         ·obtain ⟨l,m,h5,h6⟩:=bV.1 h3
          exact iI h6 (by decide) (ih.args _ _ _ _ h5 .nil)
  ·rw [args] at h
   obtain ⟨a,k,h2,h3⟩:=bV.1 h;have ha:=hacc.snoc (ih.expr _ _ _ _ h2)
   split at h3
   ·cases h3;exact ha
   ·obtain ⟨u,m,h4,h5⟩:=bV.1 h3
    exact ih.args _ _ _ _ h5 ha
theorem AX {n i j:Nat} {p:Pt} (h:iX L n i=.ok p j):Nn p:=by
 unfold iX at h
 obtain ⟨u,k,h2,h3⟩:=bV.1 h;obtain ⟨s,m,h4,h5⟩:=bV.1 h3;obtain ⟨x,o,h6,h7⟩:=bV.1 h5
 exact iI h7 (by decide) (.cons (rE n _ h6) .nil)
structure NnS (L:List aZ) (n:Nat):Prop where
 block:∀ i p j,block L n i=.ok p j→Nn p
 stmts:∀ i acc l j,stmts L n i acc=.ok l j→pO acc→pO l
 branch:∀ i p j,branch L n i=.ok p j→Nn p
 stmt:∀ i p j,stmt L n i=.ok p j→Nn p
theorem nnS:∀ n,NnS L n
 | 0=>⟨fun _ _ _ h=>by simp only [block] at h;(cases h),fun _ _ _ _ h=>by simp only [stmts] at h;(cases h),fun _ _ _ h=>by simp only [branch] at h;(cases h),fun _ _ _ h=>by simp only [stmt] at h;(cases h)⟩
 | n+1=>by
  have ih:=nnS n;have he:=nnE (L:=L) n
  refine ⟨fun i p j h=>?_,fun i acc l j h ha=>?_,fun i p j h=>?_,fun i p j h=>?_⟩
  ·rw [block] at h
   obtain ⟨u,k,h2,h3⟩:=bV.1 h;obtain ⟨l,m,h4,h5⟩:=bV.1 h3;obtain ⟨u2,o,h6,h7⟩:=bV.1 h5
   exact iI h7 (by decide) (ih.stmts _ _ _ _ h4 .nil)
  ·rw [stmts] at h
   split at h
   ·cases h;exact ha
   ·obtain ⟨p,k,h2,h3⟩:=bV.1 h
    split at h3
    ·cases h3
    ·exact ih.stmts _ _ _ _ h3 (ha.snoc (ih.stmt _ _ _ h2))
  ·rw [branch] at h
   obtain ⟨u,k,h2,h3⟩:=bV.1 h;obtain ⟨e,m,h4,h5⟩:=bV.1 h3;obtain ⟨b,o,h6,h7⟩:=bV.1 h5;have h8:=he.expr _ _ _ _ h4;have h9:=ih.block _ _ _ h6
   split at h7
   ·split at h7
    ·obtain ⟨x,q,h10,h11⟩:=bV.1 h7
     exact iI h11 (by decide) (.cons h8 (.cons h9 (.cons (ih.branch _ _ _ h10) .nil)))
    ·obtain ⟨x,q,h10,h11⟩:=bV.1 h7
     exact iI h11 (by decide) (.cons h8 (.cons h9 (.cons (ih.block _ _ _ h10) .nil)))
   ·exact iI h7 (by decide) (.cons h8 (.cons h9 .nil))
  ·rw [stmt] at h
   split at h
   ·exact AX h
   split at h
   ·exact ih.branch _ _ _ h
   split at h
   ·exact ih.block _ _ _ h
   split at h
   ·obtain ⟨e,k,h2,h3⟩:=bV.1 h
    obtain ⟨b,m,h4,h5⟩:=bV.1 h3
    exact iI h5 (by decide) (.cons (he.expr _ _ _ _ h2) (.cons (ih.block _ _ _ h4) .nil))
   split at h
   ·split at h
    ·exact iI h (by decide) .nil
    ·obtain ⟨e,k,h2,h3⟩:=bV.1 h
     exact iI h3 (by decide) (.cons (he.expr _ _ _ _ h2) .nil)
   ·obtain ⟨a,k,h2,h3⟩:=bV.1 h
    have h6:=he.expr _ _ _ _ h2
    have two:∀ (kd:By),kd≠[]→((expr L n 0 (k+1)).next fun b m=>T.part L kd [] (bQ L i) [a,b] m)=.ok p j→Nn p:=fun kd hk h=>by
     obtain ⟨b,m,h4,h5⟩:=bV.1 h
     exact iI h5 hk (.cons h6 (.cons (he.expr _ _ _ _ h4) .nil))
    split at h3
    ·exact two _ (by decide) h3
    ·split at h3
     ·exact two _ (by decide) h3
     ·exact iI h3 (by decide) (.cons h6 .nil)
theorem Rn {k:By} {l:List Pt} (hk:k≠[]) (h:pO l):Nn (mG k l):=by
 cases l with
 | nil=>unfold mG;exact E5 hk h
 | cons p r=>obtain ⟨kk,t,f,e,ks⟩:=p;simp only [mG];exact E5 hk h
theorem BN {p:Pt} (h:oQ L=.part p):Nn p:=by
 have hd:∃ n i,decl L n=.ok p i:=by
  unfold oQ at h
  split at h
  ·rename_i q i h1
   split at h
   ·cases h
   ·cases h;exact ⟨_,i,h1⟩
  ·cases h
 obtain ⟨n,i,h⟩:=hd
 unfold decl at h
 split at h
 ·unfold rX at h
  obtain ⟨u,k,h2,h3⟩:=bV.1 h;obtain ⟨s,m,h4,h5⟩:=bV.1 h3;obtain ⟨u2,o,h6,h7⟩:=bV.1 h5;obtain ⟨ps,q,h8,h9⟩:=bV.1 h7;obtain ⟨rs,v,h10,h11⟩:=bV.1 h9;obtain ⟨b,w,h12,h13⟩:=bV.1 h11
  have hp:pO ps:=by
   split at h8
   ·cases h8;exact .nil
   ·exact E6 n n o [] h8 .nil
  have hr:pO rs:=by
   split at h10
   ·cases h10;exact .nil
   ·obtain ⟨x,z,h14,h15⟩:=bV.1 h10
    cases h15
    exact .cons (rE n _ h14) .nil
  exact iI h13 (by decide) (.cons (Rn (by decide) hp) (.cons (Rn (by decide) hr) (.cons ((nnS n).block _ _ _ h12) .nil)))
 ·split at h
  ·exact AX h
  ·split at h
   ·unfold record at h
    obtain ⟨u,k,h2,h3⟩:=bV.1 h;obtain ⟨s,m,h4,h5⟩:=bV.1 h3;obtain ⟨u2,o,h6,h7⟩:=bV.1 h5;obtain ⟨u3,q,h8,h9⟩:=bV.1 h7;obtain ⟨l,v,h10,h11⟩:=bV.1 h9;obtain ⟨u4,w,h12,h13⟩:=bV.1 h11
    exact iI h13 (by decide) (E7 n n _ [] h10 .nil)
   ·cases h
end
end K
namespace K
open Go.RowKit
open Go.Lib hiding intOf
open U S T
section
variable {W:World} {R X:Nat→Prop} (hX:∀ g off k,X g→k≠[]→W.cell? ⟨g,off,none⟩≠some (.string (aU k)))
include hX
mutual
theorem xQ:∀ (p:Pt) (lv:Value),Nn p→aT W R p lv→aT W (fun g=>R g∧¬ X g) p lv
 | .mk k t f e ks,lv,hn,h=>by
  unfold Nn at hn
  obtain ⟨a,cap,h1,h0,h2⟩:=h;refine ⟨a,cap,h1,h0,?_⟩
  rcases h2 with h2|⟨g,off,xs,h3,h4,h5,h6⟩
  ·exact .inl h2
  ·by_cases hk:ks=[]
   ·exact .inl hk
   ·refine .inr ⟨g,off,xs,h3,⟨h4,fun hx=>?_⟩,h5,AY ks xs hn.2 h6⟩
    cases ks with
    | nil=>exact hk rfl
    | cons p r =>
     obtain ⟨Cu,rest,rfl,_,_⟩:=h6;obtain ⟨k',t',f',e',ks'⟩:=p;have h7:=hn.2
     unfold pO Nn at h7
     exact hX g off k' hx h7.1.1 (h5 0 _ rfl)
theorem AY:∀ (l:List Pt) (xs:List Value),pO l→aO W R l xs→aO W (fun g=>R g∧¬ X g) l xs
 | [],_,_,h=>h
 | p :: r,xs,hn,h=>by
  have _hX:=hX
  unfold pO at hn
  obtain ⟨lv,rest,h1,h2,h3⟩:=h
  exact ⟨lv,rest,h1,xQ p lv hn.1 h2,AY r rest hn.2 h3⟩
end
end
end K
end Go.Proofs.YtojoahlpgmnbnaaGreatDoor
