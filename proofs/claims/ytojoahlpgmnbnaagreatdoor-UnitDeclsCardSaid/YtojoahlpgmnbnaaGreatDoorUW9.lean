/- What the claim needs of the texts KSimT, KBnd, KStp, KCatch, KRun, KTodo, KMap, KWith, QPlain, KFine, KText, KNn, KLeave. -/
import Derived.Test.YtojoahlpgmnbnaaGreatDoorUWOp
import Derived.Test.YtojoahlpgmnbnaaGreatDoorUW8
import Derived.Defers
import Derived.Recover
import Derived.Laws.Pointers
import Derived.Test.YtojoahlpgmnbnaaGreatDoorUW1
import Derived.Test.YtojoahlpgmnbnaaGreatDoorUW2
set_option maxRecDepth 20000
set_option maxHeartbeats 16000000
namespace Go.Proofs.YtojoahlpgmnbnaaGreatDoor
namespace K
open Go.Lib Go.Proofs.YtojoahlpgmnbnaaGreatDoor.U Go.Proofs.YtojoahlpgmnbnaaGreatDoor.S Go.Proofs.YtojoahlpgmnbnaaGreatDoor.T
section
variable {L:List bn} (size:Nat) (hL:∀ t∈L,vN t)
theorem Rs (k:By):∀ l:List Pt,(.mk k [] (yQ l) (vM l) l:Pt)=mJ k l
 | []=>rfl
 | .mk a b c d e :: r=>by
  unfold mJ yQ vM
  first
   | (dsimp only;done)
   | (dsimp only
      rcases (Pt.mk a b c d e :: r).getLast? with _|⟨_,_,_,_,_⟩ <;> rfl)
theorem GN {j:Nat} (R:List Stp) (kd:By) (f kf:Int) (ks:List Pt) (a:Open) (O:List Open) (h1:kd=eT∨kd=fF) (h0:0<j) :
  fA L size ⟨j,.m .fin :: R,⟨kd,[],f,ks,kf⟩ :: a :: O⟩=.go ⟨j,R,a.add (mJ kd ks) f :: O⟩:=by
 show BH L size ⟨j,R,⟨kd,[],f,ks,kf⟩ :: a :: O⟩=_
 have h2:¬ kd=Kw:=by rcases h1 with h1|h1 <;> rw [h1] <;> decide
 unfold BH
 dsimp only;rw [ai (by omega)];simp only [sJ,Open.close,h2,h1,if_false,if_true,Rs];rfl
include hL
theorem Dj (m:Nat):∀ (n i:Nat) (o:Open) (O:List Open) (rest:List Stp),2*(L.length - i)+1≤m→L.length - i+1≤n→i≤L.length→match params L m n i o.kids with
  | .ok l j=>j≤L.length∧i<j∧∃ kf,To L size 0 ⟨i,.m .param :: .kJ .param :: .word [41] :: rest,o :: O⟩ ⟨j,rest,{ o with kids:=l,kf:=kf } :: O⟩
  | .bad j=>Fl L size 50 ⟨i,.m .param :: .kJ .param :: .word [41] :: rest,o :: O⟩ j
 | 0,i,o,O,rest,_,hn,_=>by omega
 | n+1,i,o,O,rest,hm,hn,hi=>by
  simp only [params];have hp:=E7 size hL .param rq (fun _=>rfl) (by decide) m i hm o O (.kJ .param :: .word [41] :: rest)
  cases h1:param L m rq i with
  | bad j=>rw [h1] at hp;exact hp.mono (by omega)
  | ok p j =>
   rw [h1] at hp;obtain ⟨hj,hij,hr⟩:=hp;simp only [Out.next];have hc:=Jt size hL (i:=j) .param (.word [41] :: rest) (o.add p (tf L size i) :: O)
   cases h2:bH L [41] j with
   | true =>
    have hlt:=bR h2;rw [au rfl];rw [rF h2 (by decide),ai (by decide)] at hc;have hw:=fG size hL (by decide) rest (o.add p (tf L size i) :: O) h2
    exact ⟨hlt,by omega,tf L size i,(hr.trans (.cons hc (.one hw) (ak _))).mono (by dsimp only;omega)⟩
   | false =>
    rw [ai (by decide)]
    unfold bJ
    cases h3:bH L [44] j with
    | false =>
     rw [ai (by decide)];rw [h3,ai (by decide)] at hc
     exact (hr.fl (.cons hc (.now (gJ size hL (by decide) _ _ h2)) (ak _))).mono (by dsimp only;omega)
    | true =>
     have hlt:=bR h3;rw [au rfl];rw [h3,au rfl] at hc;simp only;have hw:=fG size hL (by decide) (.m .param :: .kJ .param :: .word [41] :: rest) (o.add p (tf L size i) :: O) h3;have hq:=Dj m n (j+1) (o.add p (tf L size i)) O rest (by omega) (by omega) hlt;rw [show (o.add p (tf L size i)).kids=o.kids++[p] from rfl] at hq
     cases h4:params L m n (j+1) (o.kids++[p]) with
     | bad k=>rw [h4] at hq;exact (hr.fl (.cons hc (.cons hw hq (ak _)) (ak _))).mono (by dsimp only;omega)
     | ok l k =>
      rw [h4] at hq;obtain ⟨q1,q2,kf,q3⟩:=hq
      exact ⟨q1,by omega,kf,(hr.trans (.cons hc (.cons hw q3 (ak _)) (ak _))).mono (by dsimp only;omega)⟩
theorem Dk (m:Nat):∀ (n i:Nat) (o:Open) (O:List Open) (rest:List Stp),2*(L.length - i)+1≤m→L.length - i+2≤n→i≤L.length→bH L [125] i=false→match fields L m n i o.kids with
  | .ok l j=>j≤L.length∧i<j∧bH L [125] j=true∧∃ kf,To L size 0 ⟨i,.m .field :: .more .field :: .word [125] :: rest,o :: O⟩ ⟨j,.word [125] :: rest,{ o with kids:=l,kf:=kf } :: O⟩
  | .bad j=>Fl L size 50 ⟨i,.m .field :: .more .field :: .word [125] :: rest,o :: O⟩ j
 | 0,i,o,O,rest,_,hn,_,_=>by omega
 | n+1,i,o,O,rest,hm,hn,hi,hb=>by
  simp only [fields,hb,Bool.false_eq_true,if_false];have hp:=E7 size hL .field je (fun _=>rfl) (by decide) m i hm o O (.more .field :: .word [125] :: rest)
  cases h1:param L m je i with
  | bad j=>rw [h1] at hp;exact hp.mono (by omega)
  | ok p j =>
   rw [h1] at hp;obtain ⟨hj,hij,hr⟩:=hp;simp only [Out.next];have hle:=kW j hj
   rcases Ni size hL (j:=j) .field rest (o.add p (tf L size i) :: O) with ⟨q1,q2⟩|⟨q1,q0,q2⟩|⟨q1,q0,q2⟩
   ·have hs:¬ (bE L j=0∧bH L [125] j=false):=by
     rintro ⟨a,b⟩;rw [a,bV,b] at q1;cases q1
    rw [ai hs];obtain ⟨m',hm'⟩:∃ m,n=m+1:=⟨n - 1,by omega⟩;rw [hm'];simp only [fields,q1,if_true]
    exact ⟨hle,by omega,trivial,tf L size i,(hr.trans q2).mono (by omega)⟩
   ·rw [q0,bV] at q1
    rw [au ⟨q0,q1⟩]
    exact (hr.fl q2).mono (by omega)
   ·rw [ai (by omega)]
    have hk:=Dk m n (j+bE L j) (o.add p (tf L size i)) O rest (by omega) (by omega) hle q1;rw [show (o.add p (tf L size i)).kids=o.kids++[p] from rfl] at hk
    cases h2:fields L m n (j+bE L j) (o.kids++[p]) with
    | bad k=>rw [h2] at hk;exact (hr.fl (q2.fl hk)).mono (by omega)
    | ok l k =>
     rw [h2] at hk;obtain ⟨r1,r2,r3,kf,r4⟩:=hk
     exact ⟨r1,by omega,r3,kf,(hr.trans (q2.trans r4)).mono (by omega)⟩
theorem LA (n i:Nat) (hn:8*L.length+10≤n) (h1:bH L gU i=true) (T:Open) (O:List Open) (rest:List Stp):match record L n i with
  | .ok p j=>j≤L.length∧i<j∧To L size (-50) ⟨i,.word gU :: .m .name :: .word kr :: .word [123] :: .lines .field :: .word [125] :: .m .fin :: rest,⟨gU,[],tf L size i,[],0⟩ :: T :: O⟩ ⟨j,rest,T.add p (tf L size i) :: O⟩
  | .bad j=>Fl L size 60 ⟨i,.word gU :: .m .name :: .word kr :: .word [123] :: .lines .field :: .word [125] :: .m .fin :: rest,⟨gU,[],tf L size i,[],0⟩ :: T :: O⟩ j:=by
 have hlt:=bR h1
 unfold record bJ
 rw [h1,au rfl];simp only [Out.next];have hw:=fG size hL (by decide) (.m .name :: .word kr :: .word [123] :: .lines .field :: .word [125] :: .m .fin :: rest) (⟨gU,[],tf L size i,[],0⟩ :: T :: O) h1
 unfold gG
 cases h2:bT L 0 (i+1) with
 | false =>
  rw [ai (by decide)]
  exact .cons hw (.now (nT size hL _ _ h2)) (by dsimp only;omega)
 | true =>
 have hlt2:=gL h2;rw [au rfl];simp only;have hm:=uE size hL (.word kr :: .word [123] :: .lines .field :: .word [125] :: .m .fin :: rest) ⟨gU,[],tf L size i,[],0⟩ (T :: O) h2
 cases h3:bH L kr (i+1+1) with
 | false =>
  rw [ai (by decide)]
  exact .cons hw (.cons hm (.now (gJ size hL (by decide) _ _ h3)) (ak _)) (by dsimp only;omega)
 | true =>
 have hlt3:=bR h3;rw [au rfl];simp only;have hw3:=fG size hL (by decide) (.word [123] :: .lines .field :: .word [125] :: .m .fin :: rest) (⟨gU,dx L (i+1),tf L size i,[],0⟩ :: T :: O) h3
 cases h4:bH L [123] (i+1+1+1) with
 | false =>
  rw [ai (by decide)]
  exact .cons hw (.cons hm (.cons hw3 (.now (gJ size hL (by decide) _ _ h4)) (ak _)) (ak _)) (by dsimp only;omega)
 | true =>
 have EG:=bR h4;rw [au rfl];simp only;have hw4:=fG size hL (by decide) (.lines .field :: .word [125] :: .m .fin :: rest) (⟨gU,dx L (i+1),tf L size i,[],0⟩ :: T :: O) h4;obtain ⟨u,hu⟩:∃ u,i+1+1+1+1=u:=⟨_,rfl⟩;rw [hu] at hw4 ⊢;have hl:=Di size hL (i:=u) .field (.word [125] :: .m .fin :: rest) (⟨gU,dx L (i+1),tf L size i,[],0⟩ :: T :: O);have hle:u+bE L u≤L.length:=kW u (by omega);obtain ⟨m,hm'⟩:∃ m,n=m+1:=⟨n - 1,by omega⟩
 cases h5:bH L [125] (u+bE L u) with
 | true =>
  have BJ:=bR h5;rw [h5,au rfl] at hl;rw [show fields L n n (u+bE L u) []=.ok [] (u+bE L u) by rw [hm'];simp only [fields,h5,if_true]];simp only;rw [h5,au rfl];have jr:=fG size hL (by decide) (.m .fin :: rest) (⟨gU,dx L (i+1),tf L size i,[],0⟩ :: T :: O) h5;have hf:=iN size rest gU (dx L (i+1)) (tf L size i) 0 [] T O (by decide) (dW _) BJ;refine ⟨BJ,by omega,?_⟩;rw [fJ hlt] at hw hm hw3 hw4 hl jr hf ⊢
  exact .cons hw (.cons hm (.cons hw3 (.cons hw4 (.cons hl (.cons jr (.one hf) (ak _)) (ak _)) (ak _)) (ak _)) (ak _)) (by dsimp only;omega)
 | false =>
  rw [h5,ai (by decide)] at hl;have hk:=Dk size hL n n (u+bE L u) ⟨gU,dx L (i+1),tf L size i,[],0⟩ (T :: O) (.m .fin :: rest) (by omega) (by omega) hle h5;dsimp only at hk
  cases h6:fields L n n (u+bE L u) [] with
  | bad k=>rw [h6] at hk;exact .cons hw (.cons hm (.cons hw3 (.cons hw4 (.cons hl hk (ak _)) (ak _)) (ak _)) (ak _)) (by dsimp only;omega)
  | ok l k =>
   rw [h6] at hk;obtain ⟨r1,r2,r3,kf,r4⟩:=hk;have UZ:=bR r3;simp only;rw [r3,au rfl];have jr:=fG size hL (by decide) (.m .fin :: rest) (⟨gU,dx L (i+1),tf L size i,l,kf⟩ :: T :: O) r3;have hf:=iN size rest gU (dx L (i+1)) (tf L size i) kf l T O (by decide) (dW _) UZ;refine ⟨UZ,by omega,?_⟩;rw [fJ hlt] at hw hm hw3 hw4 hl r4 jr hf ⊢
   exact .cons hw (.cons hm (.cons hw3 (.cons hw4 (.cons hl (r4.trans (.cons jr (.one hf) (ak _))) (ak _)) (ak _)) (ak _)) (ak _)) (by dsimp only;omega)
theorem OA {i:Nat} (R:List Stp) (a:Open) (O:List Open) (h0:0<i):fA L size ⟨i,.m .result :: R,a :: O⟩ =
  if bH L [123] i then .go ⟨i,R,a.add (.mk fF [] 0 0 []) (tf L size i) :: O⟩ else .go ⟨i,.m .typeOf :: .m .fin :: R,⟨fF,[],tf L size i,[],0⟩ :: a :: O⟩:=by
 show bD L size .result ⟨i,R,a :: O⟩=_
 simp only [bD];rw [gN size hL (by decide),ai (show ¬ i=0 by omega)];rfl
theorem LB (n i:Nat) (hn:2*L.length+1≤n) (h0:0<i) (hi:i≤L.length) (T:Open) (O:List Open) (rest:List Stp):match (if bH L [123] i then Out.ok [] i else (typed L n i).next fun x q=>.ok [x] q:Out (List Pt)) with
  | .ok rs j=>j≤L.length∧i≤j∧To L size 2 ⟨i,.m .result :: rest,T :: O⟩ ⟨j,rest,T.add (mJ fF rs) (tf L size i) :: O⟩
  | .bad j=>Fl L size 20 ⟨i,.m .result :: rest,T :: O⟩ j:=by
 have hr:=OA size hL (i:=i) rest T O h0
 cases h1:bH L [123] i with
 | true =>
  rw [h1,au rfl] at hr;rw [au rfl]
  exact ⟨hi,ae _,.last hr (by dsimp only;omega)⟩
 | false =>
  rw [h1,ai (by decide)] at hr;rw [ai (by decide)];have hp:=kZ size hL n i (by omega) hi ⟨fF,[],tf L size i,[],0⟩ (T :: O) (.m .fin :: rest)
  cases h2:typed L n i with
  | bad j=>rw [h2] at hp;exact .cons hr hp (by dsimp only;omega)
  | ok x j =>
   rw [h2] at hp;obtain ⟨hj,hij,hx⟩:=hp;have hf:=GN (L:=L) size rest fF (tf L size i) (tf L size i) [x] T O (.inr rfl) (by omega:0<j)
   exact ⟨hj,by omega,.cons hr (hx.trans (.one hf)) (by dsimp only;omega)⟩
theorem Rt (n i:Nat) (hn:8*L.length+10≤n) (h1:bH L eY i=true) (T:Open) (O:List Open) (rest:List Stp):match si L n i with
  | .ok p j=>j≤L.length∧i<j∧To L size (-50) ⟨i,.word eY :: .m .name :: .m .params :: .m .result :: .m .block :: .m .fin :: rest,⟨eY,[],tf L size i,[],0⟩ :: T :: O⟩ ⟨j,rest,T.add p (tf L size i) :: O⟩
  | .bad j=>Fl L size 60 ⟨i,.word eY :: .m .name :: .m .params :: .m .result :: .m .block :: .m .fin :: rest,⟨eY,[],tf L size i,[],0⟩ :: T :: O⟩ j:=by
 have hlt:=bR h1
 unfold si bJ
 rw [h1,au rfl];simp only [Out.next];have hw:=fG size hL (by decide) (.m .name :: .m .params :: .m .result :: .m .block :: .m .fin :: rest) (⟨eY,[],tf L size i,[],0⟩ :: T :: O) h1
 unfold gG
 cases h2:bT L 0 (i+1) with
 | false =>
  rw [ai (by decide)]
  exact .cons hw (.now (nT size hL _ _ h2)) (by dsimp only;omega)
 | true =>
 have hlt2:=gL h2;rw [au rfl];simp only;have hm:=uE size hL (.m .params :: .m .result :: .m .block :: .m .fin :: rest) ⟨eY,[],tf L size i,[],0⟩ (T :: O) h2;have ho:=wZ size hL (k:=.params) (kd:=eT) (l:=[.word [40],.jD .param,.word [41],.m .fin]) (fun s=>rfl) (i:=i+1+1) (.m .result :: .m .block :: .m .fin :: rest) (⟨eY,dx L (i+1),tf L size i,[],0⟩ :: T :: O)
 cases h3:bH L [40] (i+1+1) with
 | false =>
  rw [ai (by decide)]
  exact .cons hw (.cons hm (.cons ho (.now (gJ size hL (by decide) _ _ h3)) (ak _)) (ak _)) (by dsimp only;omega)
 | true =>
 have hlt3:=bR h3;rw [au rfl];simp only;have hw3:=fG size hL (by decide) (.jD .param :: .word [41] :: .m .fin :: .m .result :: .m .block :: .m .fin :: rest) (⟨eT,[],tf L size (i+1+1),[],0⟩ :: ⟨eY,dx L (i+1),tf L size i,[],0⟩ :: T :: O) h3;obtain ⟨u,hu⟩:∃ u,i+1+1+1=u:=⟨_,rfl⟩;rw [hu] at hw3 ⊢;have hc:=E8 size hL (i:=u) .param (.word [41] :: .m .fin :: .m .result :: .m .block :: .m .fin :: rest) (⟨eT,[],tf L size (i+1+1),[],0⟩ :: ⟨eY,dx L (i+1),tf L size i,[],0⟩ :: T :: O)
 have hps:match (if bH L [41] u then Out.ok [] (u+1) else params L n n u []:Out (List Pt)) with
   | .ok ps j=>j≤L.length∧u<j∧To L size 2 ⟨u,.jD .param :: .word [41] :: .m .fin :: .m .result :: .m .block :: .m .fin :: rest,⟨eT,[],tf L size (i+1+1),[],0⟩ :: ⟨eY,dx L (i+1),tf L size i,[],0⟩ :: T :: O⟩ ⟨j,.m .result :: .m .block :: .m .fin :: rest,⟨eY,dx L (i+1),tf L size i,[mJ eT ps],tf L size (i+1+1)⟩ :: T :: O⟩
   | .bad j=>Fl L size 51 ⟨u,.jD .param :: .word [41] :: .m .fin :: .m .result :: .m .block :: .m .fin :: rest,⟨eT,[],tf L size (i+1+1),[],0⟩ :: ⟨eY,dx L (i+1),tf L size i,[],0⟩ :: T :: O⟩ j:=by
  cases h4:bH L [41] u with
  | true =>
   have EG:=bR h4;rw [h4,au rfl] at hc;rw [au rfl];have hw4:=fG size hL (by decide) (.m .fin :: .m .result :: .m .block :: .m .fin :: rest) (⟨eT,[],tf L size (i+1+1),[],0⟩ :: ⟨eY,dx L (i+1),tf L size i,[],0⟩ :: T :: O) h4;have hf:=GN (L:=L) size (.m .result :: .m .block :: .m .fin :: rest) eT (tf L size (i+1+1)) 0 [] ⟨eY,dx L (i+1),tf L size i,[],0⟩ (T :: O) (.inl rfl) (dW u)
   exact ⟨EG,by omega,.cons hc (.cons hw4 (.one hf) (ak _)) (by dsimp only;omega)⟩
  | false =>
   rw [h4,ai (by decide)] at hc;rw [ai (by decide)];have hk:=Dj size hL n n u ⟨eT,[],tf L size (i+1+1),[],0⟩ (⟨eY,dx L (i+1),tf L size i,[],0⟩ :: T :: O) (.m .fin :: .m .result :: .m .block :: .m .fin :: rest) (by omega) (by omega) (by omega);dsimp only at hk
   cases h5:params L n n u [] with
   | bad j=>rw [h5] at hk;exact .cons hc hk (by dsimp only;omega)
   | ok ps j =>
    rw [h5] at hk;obtain ⟨q1,q2,kf,q3⟩:=hk;have hf:=GN (L:=L) size (.m .result :: .m .block :: .m .fin :: rest) eT (tf L size (i+1+1)) kf ps ⟨eY,dx L (i+1),tf L size i,[],0⟩ (T :: O) (.inl rfl) (by omega:0<j)
    exact ⟨q1,by omega,.cons hc (q3.trans (.one hf)) (by dsimp only;omega)⟩
 cases h4:(if bH L [41] u then Out.ok [] (u+1) else params L n n u []:Out (List Pt)) with
 | bad j=>rw [h4] at hps;exact .cons hw (.cons hm (.cons ho (.cons hw3 hps (ak _)) (ak _)) (ak _)) (by dsimp only;omega)
 | ok ps o =>
  rw [h4] at hps;obtain ⟨p1,p2,p3⟩:=hps;simp only;have hrs:=LB size hL n o (by omega) (by omega) p1 ⟨eY,dx L (i+1),tf L size i,[mJ eT ps],tf L size (i+1+1)⟩ (T :: O) (.m .block :: .m .fin :: rest)
  have fin:∀ (rs:List Pt) (q:Nat),q≤L.length→o≤q→To L size 2 ⟨o,.m .result :: .m .block :: .m .fin :: rest,⟨eY,dx L (i+1),tf L size i,[mJ eT ps],tf L size (i+1+1)⟩ :: T :: O⟩ ⟨q,.m .block :: .m .fin :: rest,Open.add ⟨eY,dx L (i+1),tf L size i,[mJ eT ps],tf L size (i+1+1)⟩ (mJ fF rs) (tf L size o) :: T :: O⟩ →
    match (block L n q).next fun b r=>Go.Proofs.YtojoahlpgmnbnaaGreatDoor.T.part L eY (dx L (i+1)) (bQ L i) [mJ eT ps,mJ fF rs,b] r with
    | .ok p j=>j≤L.length∧i<j∧To L size (-50) ⟨i,.word eY :: .m .name :: .m .params :: .m .result :: .m .block :: .m .fin :: rest,⟨eY,[],tf L size i,[],0⟩ :: T :: O⟩ ⟨j,rest,T.add p (tf L size i) :: O⟩
    | .bad j=>Fl L size 60 ⟨i,.word eY :: .m .name :: .m .params :: .m .result :: .m .block :: .m .fin :: rest,⟨eY,[],tf L size i,[],0⟩ :: T :: O⟩ j:=by
   intro rs q r1 r2 r3;have hb:=(WW size hL n).block q (by omega) r1 (Open.add ⟨eY,dx L (i+1),tf L size i,[mJ eT ps],tf L size (i+1+1)⟩ (mJ fF rs) (tf L size o)) (T :: O) (.m .fin :: rest)
   cases h6:block L n q with
   | bad j=>rw [h6] at hb;exact .cons hw (.cons hm (.cons ho (.cons hw3 (p3.fl (r3.fl hb)) (ak _)) (ak _)) (ak _)) (by dsimp only;omega)
   | ok b j =>
    rw [h6] at hb;obtain ⟨b1,b2,b3⟩:=hb;have hf:=iN size rest eY (dx L (i+1)) (tf L size i) (tf L size q) [mJ eT ps,mJ fF rs,b] T O (by decide) (by omega) b1;refine ⟨b1,by omega,?_⟩;rw [fJ hlt] at hw hm ho hw3 p3 r3 b3 hf ⊢
    exact .cons hw (.cons hm (.cons ho (.cons hw3 (p3.trans (r3.trans (b3.trans (.one hf)))) (ak _)) (ak _)) (ak _)) (by dsimp only;omega)
  cases h5:bH L [123] o with
  | true =>
   rw [h5,au rfl] at hrs;rw [au rfl]
   exact fin [] o hrs.1 hrs.2.1 hrs.2.2
  | false =>
   rw [h5,ai (by decide)] at hrs;rw [ai (by decide)]
   cases h6:typed L n o with
   | bad j=>rw [h6] at hrs;exact .cons hw (.cons hm (.cons ho (.cons hw3 (p3.fl hrs) (ak _)) (ak _)) (ak _)) (by dsimp only;omega)
   | ok x q=>rw [h6] at hrs;exact fin [x] q hrs.1 hrs.2.1 hrs.2.2
theorem Nj {i:Nat} (R:List Stp) (O:List Open):fA L size ⟨i,.m .decl :: R,O⟩ =
  if bH L eY i then .go ⟨i,.word eY :: .m .name :: .m .params :: .m .result :: .m .block :: .m .fin :: R,⟨eY,[],tf L size i,[],0⟩ :: O⟩
  else if bH L jd i then .go ⟨i,.word jd :: .m .name :: .m .typeOf :: .m .fin :: R,⟨jd,[],tf L size i,[],0⟩ :: O⟩
  else if bH L gU i then .go ⟨i,.word gU :: .m .name :: .word kr :: .word [123] :: .lines .field :: .word [125] :: .m .fin :: R,⟨gU,[],tf L size i,[],0⟩ :: O⟩
  else .wrong:=by
 show bD L size .decl ⟨i,R,O⟩=_
 simp only [bD];rw [gN size hL (by decide),gN size hL (by decide),gN size hL (by decide)];rfl
theorem Ru (n:Nat) (hn:8*L.length+10≤n) (T:Open) (O:List Open) (rest:List Stp):match decl L n with
  | .ok p j=>j≤L.length∧0<j∧To L size 0 ⟨0,.m .decl :: rest,T :: O⟩ ⟨j,rest,T.add p (tf L size 0) :: O⟩
  | .bad j=>Fl L size 70 ⟨0,.m .decl :: rest,T :: O⟩ j:=by
 have h0:=Nj size hL (i:=0) rest (T :: O)
 unfold decl
 by_cases h1:bH L eY 0=true
 ·rw [au h1]
  rw [h1,au rfl] at h0;have hf:=Rt size hL n 0 hn h1 T O rest
  cases h2:si L n 0 with
  | bad j=>rw [h2] at hf;exact .cons h0 hf (by dsimp only;omega)
  | ok p j=>rw [h2] at hf;exact ⟨hf.1,hf.2.1,.cons h0 hf.2.2 (by dsimp only;omega)⟩
 rw [ai h1]
 have WV:bH L eY 0=false:=by simpa using h1
 by_cases h2:bH L jd 0=true
 ·rw [au h2]
  have hv:=zf size hL .decl (fun i R O h=>by rw [Nj size hL,h,rF h (by decide),ai (by decide),au rfl]) n 0 (by omega) h2 T O rest
  cases h3:iU L n 0 with
  | bad j=>rw [h3] at hv;exact hv.mono (by omega)
  | ok p j=>rw [h3] at hv;exact ⟨hv.1,hv.2.1,hv.2.2.mono (by omega)⟩
 rw [ai h2]
 have h2f:bH L jd 0=false:=by simpa using h2
 by_cases h3:bH L gU 0=true
 ·rw [au h3]
  rw [WV,ai (by decide),h2f,ai (by decide),h3,au rfl] at h0;have hf:=LA size hL n 0 hn h3 T O rest
  cases h4:record L n 0 with
  | bad j=>rw [h4] at hf;exact .cons h0 hf (by dsimp only;omega)
  | ok p j=>rw [h4] at hf;exact ⟨hf.1,hf.2.1,.cons h0 hf.2.2 (by dsimp only;omega)⟩
 rw [ai h3]
 have h3f:bH L gU 0=false:=by simpa using h3
 rw [WV,ai (by decide),h2f,ai (by decide),h3f,ai (by decide)] at h0
 exact (Fl.now h0).mono (by omega)
def root:Open:=⟨[],[],0,[],0⟩
def begun:St:=⟨0,[.m .decl,.m .vL,.m .nJ],[root]⟩
omit hL in
def wu (L:List bn) (s:St):Prop:=s.i≤L.length∧∀ x,.word x∈s.todo→x∈mq
omit hL in
theorem iW {i j:Nat} {todo l:List Stp} {O O':List Open} (h:wu L ⟨i,todo,O⟩) (hj:j≤L.length) (hl:∀ x,.word x∈l→x∈mq):wu L ⟨j,l++todo,O'⟩:=by
 refine ⟨hj,fun x hx=>?_⟩
 rcases List.mem_append.1 hx with hx|hx
 ·exact hl x hx
 ·exact h.2 x hx
omit hL in
theorem qi {i j:Nat} {todo l:List Stp} {O:List Open} {o:Option (List Open)} {s:St} (h:wu L ⟨i,todo,O⟩) (hj:j≤L.length) (hl:∀ x,.word x∈l→x∈mq) (hs:ow j (l++todo) o=.go s):wu L s:=by
 cases o with
 | none=>cases hs
 | some O'=>cases hs;exact iW h hj hl
theorem E9 {s s1:St} (h:wu L s) (hs:fA L size s=.go s1):wu L s1:=by
 obtain ⟨i,todo,O⟩:=s
 cases todo with
 | nil=>cases hs
 | cons x R =>
  have hi:i≤L.length:=h.1;have h0:wu L ⟨i,R,O⟩:=⟨hi,fun x hx=>h.2 x (aV _ hx)⟩;have hle:=kW i hi
  have hsp:∀ {l:List By},(∀ y∈l,y∈mq)→∀ {y:By},y∈l→y∈mq:=fun h _ hy=>h _ hy
  have hs:exec L size x ⟨i,R,O⟩=.go s1:=hs
  cases x with
  | word x =>
   have hx:=h.2 x bF;simp only [exec] at hs;rw [gN size hL hx] at hs
   split at hs
   ·rename_i h1;cases hs;exact iW (l:=[]) h0 (bR h1) (by simp)
   ·cases hs
  | lines k =>
   simp only [exec] at hs
   split at hs
   ·cases hs;exact iW (l:=[]) h0 hle (by simp)
   ·cases hs;exact iW (l:=[.m k,.more k]) h0 hle (by simp)
  | more k =>
   simp only [exec] at hs
   split at hs
   ·cases hs;exact iW h0 hi (by simp)
   ·cases hs;exact h0
  | jD k =>
   simp only [exec] at hs
   split at hs
   ·cases hs;exact h0
   ·cases hs;exact iW h0 hi (by simp)
  | kJ k =>
   simp only [exec] at hs
   split at hs
   ·cases hs;exact iW h0 hi (by simp;decide)
   ·cases hs;exact h0
  | m k =>
   have hs:bD L size k ⟨i,R,O⟩=.go s1:=hs
   have hop:∀ {kd:By} {l:List Stp},(∀ x,.word x∈l→x∈mq)→opened L size kd ⟨i,R,O⟩ l=.go s1→wu L s1:=fun hl h=>by cases h;exact iW h0 hi hl
   have Jy:∀ {l:List Stp},(∀ x,.word x∈l→x∈mq)→uB ⟨i,R,O⟩ l=.go s1→wu L s1:=fun hl h=>by cases h;exact iW h0 hi hl
   have hvar:varDecl L size ⟨i,R,O⟩=.go s1→wu L s1:=hop (by simp;decide);have hif:zT L size ⟨i,R,O⟩=.go s1→wu L s1:=hop (by simp;decide);have hbl:xQ L size ⟨i,R,O⟩=.go s1→wu L s1:=hop (by simp;decide);have hex:ET ⟨i,R,O⟩=.go s1→wu L s1:=Jy (by simp)
   cases k with
   | decl=>simp only [bD] at hs;repeat' split at hs
           ·exact hop (by simp;decide) hs
           ·exact hvar hs
           ·exact hop (by simp;decide) hs
           ·cases hs
   | vL=>cases hs;exact iW (l:=[]) h0 hle (by simp)
   | nJ=>simp only [bD] at hs;split at hs;cases hs;exact h0;cases hs
   | name =>
    simp only [bD] at hs;rw [vP size hL (by decide)] at hs
    split at hs
    ·rename_i h1;exact qi (l:=[]) h0 (gL h1) (by simp) hs
    ·cases hs
   | params=>exact hop (by simp;decide) hs
   | result =>
    simp only [bD] at hs;repeat' split at hs
    ·cases hs
    ·cases hs;exact iW (l:=[]) h0 hi (by simp)
    ·cases hs;exact iW (l:=[]) h0 hi (by simp)
    ·exact hop (by simp) hs
   | block=>exact hbl hs
   | fin =>
    simp only [bD,BH] at hs
    split at hs
    ·cases hs
    ·exact qi (l:=[]) h0 hi (by simp) hs
   | field=>exact hop (by simp) hs
   | param=>exact hop (by simp) hs
   | typeOf =>
    simp only [bD] at hs;repeat' split at hs
    ·exact hop (by simp;decide) hs
    ·exact hop (by simp;decide) hs
    ·exact hop (by simp) hs
   | stmt =>
    simp only [bD] at hs;repeat' split at hs
    ·exact hvar hs
    ·exact hop (by simp;decide) hs
    ·exact hif hs
    ·exact hop (by simp;decide) hs
    ·exact hbl hs
    ·exact hop (by simp) hs
   | returned =>
    simp only [bD] at hs;split at hs
    ·exact hex hs
    ·cases hs;exact h0
   | expr=>exact hex hs
   | assigned =>
    simp only [bD] at hs;rw [gN size hL (by decide),gN size hL (by decide)] at hs
    repeat' split at hs
    ·rename_i h1;exact qi (l:=[.m .pre,.m .between]) h0 (bR h1) (by simp) hs
    ·rename_i h1;exact qi (l:=[.m .pre,.m .between]) h0 (bR h1) (by simp) hs
    ·cases hs;exact h0
   | otherwise =>
    simp only [bD] at hs;split at hs
    ·exact Jy (by simp;decide) hs
    ·cases hs;exact h0
   | pre =>
    simp only [bD] at hs;split at hs
    ·exact hop (by simp) hs
    ·exact Jy (by simp) hs
   | between =>
    simp only [bD,ru] at hs
    repeat' split at hs
    ·cases hs
    ·cases hs
    ·exact qi (l:=[.m .text,.m .pre,.m .between]) h0 hi (by simp) hs
    ·cases hs;exact iW (l:=[]) h0 hi (by simp)
   | iV =>
    simp only [bD] at hs;split at hs
    ·exact hif hs
    ·exact hbl hs
   | text =>
    simp only [bD] at hs
    split at hs
    ·rename_i h1;exact qi (l:=[]) h0 h1 (by simp) hs
    ·cases hs
   | behind =>
    simp only [bD] at hs;repeat' split at hs
    ·exact qi (l:=[.word [46],.m .name,.m .fin,.m .behind]) h0 hi (by simp;decide) hs
    ·exact qi (l:=[.word [91],.m .expr,.word [93],.m .fin,.m .behind]) h0 hi (by simp;decide) hs
    ·cases hs;exact h0
   | operand =>
    simp only [bD] at hs;repeat' split at hs
    ·exact hop (by simp) hs
    ·exact hop (by simp) hs
    ·exact hop (by simp) hs
    ·exact hop (by simp;decide) hs
   | called =>
    simp only [bD] at hs;rw [gN size hL (by decide)] at hs
    split at hs
    ·rename_i h1
     have hlt:=bR h1
     split at hs
     ·cases hs
     ·repeat' split at hs
      ·cases hs;exact iW (l:=[.m .typeOf,.word [41]]) h0 hlt (by simp;decide)
      ·cases hs;exact iW (l:=[.m .typeOf,.word [44],.m .expr,.word [41]]) h0 hlt (by simp;decide)
      ·cases hs;exact iW (l:=[.jD .expr,.word [41]]) h0 hlt (by simp;decide)
    ·cases hs;exact h0
theorem OB {n:Nat} {s s1:St} (h:Goes L size n s s1) (h0:wu L s):wu L s1:=by
 induction h with
 | refl n s=>exact h0
 | step h1 _ ih=>exact ih (E9 size hL h0 h1)
omit hL in
theorem Dl:wu L begun:=⟨aM _,by simp [begun]⟩
theorem U3 (n:Nat) (hn:8*L.length+10≤n):match decl L n with
  | .ok p i=>if i+bE L i<L.length then uX L size (100*L.length+100) begun (i+bE L i)
    else i+bE L i=L.length∧∃ f,Goes L size (100*L.length+100) begun ⟨L.length,[],[root.add p f]⟩
  | .bad i=>uX L size (100*L.length+100) begun i:=by
 have hd:=Ru size hL n hn root [] [.m .vL,.m .nJ]
 have falls:∀ {j:Nat} {c:Int},Fl L size c begun j→c≤80→j≤L.length→uX L size (100*L.length+100) begun j:=by
  rintro j c ⟨m,h1,s',h2,h3⟩ hc hj;have h4:(begun.i:Int)=0:=rfl
  exact ⟨s',h2.mono (by omega),h3⟩
 cases h1:decl L n with
 | bad j =>
  rw [h1] at hd;obtain ⟨m,g1,s',g2,g3,g4⟩:=hd;have h4:((⟨0,[.m .decl,.m .vL,.m .nJ],[root]⟩:St).i:Int)=0:=rfl
  have hj:j≤L.length:=by rw [← g4];exact (OB size hL g2 Dl).1
  exact falls (c:=70) ⟨m,g1,s',g2,g3,g4⟩ (by omega) hj
 | ok p i =>
  rw [h1] at hd;obtain ⟨hj,hij,ht⟩:=hd;have hle:=kW i hj;have hs:fA L size ⟨i,[.m .vL,.m .nJ],root.add p (tf L size 0) :: []⟩=.go ⟨i+bE L i,[.m .nJ],[root.add p (tf L size 0)]⟩:=rfl
  have hm:fA L size ⟨i+bE L i,[.m .nJ],[root.add p (tf L size 0)]⟩=if decide (L.length≤i+bE L i) then .go ⟨i+bE L i,[],[root.add p (tf L size 0)]⟩ else .wrong:=by
   show bD L size .nJ ⟨i+bE L i,[],[root.add p (tf L size 0)]⟩=_
   simp only [bD];rw [Uj size hL]
  simp only
  by_cases h2:i+bE L i<L.length
  ·rw [au h2]
   rw [dm (by omega),ai (by decide)] at hm
   exact falls (c:=1) ((ht.fl (.cons hs (.now hm) (ak _))).mono (by dsimp only;omega)) (by omega) (by omega)
  ·rw [ai h2]
   have he:i+bE L i=L.length:=by omega
   rw [decide_eq_true (by omega),au rfl,he] at hm;rw [he] at hs;refine ⟨he,tf L size 0,?_⟩;obtain ⟨m,g1,g2⟩:=(ht.trans (.cons hs (.one hm) (ak _)):To L size _ _ _);dsimp only at g1
   exact g2.mono (by omega)
end
structure Sz (n:Nat) (s:St):Prop where
 todo:s.todo.length≤6*n+3
 opn:s.opn.length≤n+1
 Fa:s.opn≠[]
 kids:∀ o∈s.opn,o.kids.length≤n
theorem Rv:Sz 0 begun:=⟨by simp [begun],by simp [begun],by simp [begun],fun o ho=>by
 simp only [begun,List.mem_singleton] at ho;subst ho
 simp [root]⟩
section
variable {n i j:Nat} {R l:List Stp} {O O':List Open} {s1:St}
theorem zg {k:Nat} (_h:Sz n ⟨i,R,O⟩) (hl:l.length≤7) (h1:O'.length≤n+2) (h2:O'≠[]) (h3:∀ o∈O',o.kids.length≤n+1) (hk:R.length+1≤6*n+3):Sz (n+1) ⟨k,l++R,O'⟩ :=
 ⟨by rw [show (⟨k,l++R,O'⟩:St).todo=l++R from rfl,aO];omega,h1,h2,h3⟩
theorem GQ {k:Nat} (h:Sz n ⟨i,R,O⟩) (hl:l.length≤7) (hk:R.length+1≤6*n+3):Sz (n+1) ⟨k,l++R,O⟩ :=
 zg h hl (by have:=h.opn;show O.length≤_;exact bO this) h.Fa (fun o ho=>bO (h.kids o ho)) hk
theorem U4 {k:Nat} {o:Open} (h:Sz n ⟨i,R,O⟩) (ho:o.kids.length≤1) (hl:l.length≤7) (hk:R.length+1≤6*n+3):Sz (n+1) ⟨k,l++R,o :: O⟩ :=
 zg h hl (by have:O.length≤n+1:=h.opn;rw [aH];omega) (by simp) (fun q hq=>by
  rcases bB.1 hq with rfl|hq
  ·omega
  ·exact bO (h.kids q hq)) hk
theorem OC {t:By} (h:ER t O=some O'):O'.length=O.length∧O'≠[]∧∀ q∈O',∃ o∈O,q.kids=o.kids:=by
 cases O with
 | nil=>cases h
 | cons o r =>
  cases h
  refine ⟨rfl,by simp,fun q hq=>?_⟩
  rcases bB.1 hq with rfl|hq
  ·exact ⟨o,bF,rfl⟩
  ·exact ⟨q,aV _ hq,rfl⟩
theorem OD {t:By} (h:ES t O=some O'):O'.length=O.length∧O'≠[]∧∀ q∈O',∃ o∈O,q.kids=o.kids:=by
 cases O with
 | nil=>cases h
 | cons o r =>
  cases h
  refine ⟨rfl,by simp,fun q hq=>?_⟩
  rcases bB.1 hq with rfl|hq
  ·exact ⟨o,bF,rfl⟩
  ·exact ⟨q,aV _ hq,rfl⟩
theorem LC {e:Int} (h:sJ e O=some O') (hk:∀ o∈O,o.kids.length≤n):O'.length≤O.length∧O'≠[]∧∀ q∈O',q.kids.length≤n+1:=by
 match O,h with
 | o :: a :: r,h =>
  unfold sJ at h
  dsimp only at h
  cases hc:o.close e with
  | none=>rw [hc] at h;cases h
  | some p =>
   rw [hc] at h
   cases h
   refine ⟨by simp,by simp,fun q hq=>?_⟩
   rcases bB.1 hq with rfl|hq
   ·have h1:=hk a (aV _ bF)
    show (a.kids++[p]).length≤_
    rw [aO];exact iq h1
   ·exact bO (hk q (aV _ (aV _ hq)))
theorem Bf {e s:Int}:∀ (r:List Open) (o:Open),settle e s o r=some O'→o.kids.length≤n+1→(∀ q∈r,q.kids.length≤n)→O'.length≤r.length+1∧O'≠[]∧∀ q∈O',q.kids.length≤n+1
 | [],o,h,h1,_=>by
  unfold settle at h
  split at h
  ·cases h
  ·cases h
   exact ⟨ae _,by simp,fun q hq=>by rw [List.mem_singleton.1 hq];exact h1⟩
 | a :: r,o,h,h1,h2=>by
  unfold settle at h
  split at h
  ·have h3:=Bf r _ h (by
    show (a.kids++[_]).length≤_
    rw [aO];exact iq (h2 a bF)) (fun q hq=>h2 q (aV _ hq))
   exact ⟨aJ h3.1 (by simp),h3.2⟩
  ·cases h
   refine ⟨by simp,by simp,fun q hq=>?_⟩
   rcases bB.1 hq with rfl|hq
   ·exact h1
   ·exact bO (h2 q hq)
theorem Fb {k:By} (h:oQ k O=some O') (hk:∀ o∈O,o.kids.length≤n) (hn:1≤n):O'.length=O.length+1∧O'≠[]∧∀ q∈O',q.kids.length≤n:=by
 cases O with
 | nil=>cases h
 | cons a r =>
  unfold oQ at h
  dsimp only at h
  cases hc:a.kids.getLast? with
  | none=>rw [hc] at h;cases h
  | some p =>
   rw [hc] at h
   cases h
   refine ⟨by simp,by simp,fun q hq=>?_⟩
   rcases bB.1 hq with rfl|hq
   ·exact hn
   ·rcases bB.1 hq with rfl|hq
    ·show a.kids.dropLast.length≤n
     rw [List.length_dropLast];exact aJ (Nat.sub_le _ _) (hk a bF)
    ·exact hk q (aV _ hq)
theorem Dm {k:Nat} {o:Option (List Open)} (hs:ow k (l++R) o=.go s1) (hl:l.length≤7) (hk:R.length+1≤6*n+3) (ho:∀ O',o=some O'→O'.length≤n+2∧O'≠[]∧∀ q∈O',q.kids.length≤n+1):Sz (n+1) s1:=by
 cases o with
 | none=>cases hs
 | some O' =>
  cases hs
  obtain ⟨h1,h2,h3⟩:=ho O' rfl
  exact ⟨by rw [show (⟨k,l++R,O'⟩:St).todo=l++R from rfl,aO];omega,h1,h2,h3⟩
end
variable {L:List bn} {size:Nat}
theorem U5 {n:Nat} {s s1:St} (h:Sz n s) (hs:fA L size s=.go s1):Sz (n+1) s1:=by
 obtain ⟨i,todo,O⟩:=s
 cases todo with
 | nil=>cases hs
 | cons x R =>
  have h0:Sz n ⟨i,R,O⟩:=⟨aJ (dY _) h.todo,h.opn,h.Fa,h.kids⟩
  have hk:R.length+1≤6*n+3:=h.todo
  have hsame:∀ k,Sz (n+1) ⟨k,R,O⟩:=fun k=>GQ (l:=[]) h0 (by simp) hk
  have hop:∀ {kd:By} {l:List Stp},l.length≤7→opened L size kd ⟨i,R,O⟩ l=.go s1→Sz (n+1) s1:=fun hl h=>by cases h;exact U4 h0 (by simp) hl hk
  have Jy:∀ {l:List Stp},l.length≤7→uB ⟨i,R,O⟩ l=.go s1→Sz (n+1) s1:=fun hl h=>by cases h;exact GQ h0 hl hk
  have hvar:varDecl L size ⟨i,R,O⟩=.go s1→Sz (n+1) s1:=hop (by simp);have hif:zT L size ⟨i,R,O⟩=.go s1→Sz (n+1) s1:=hop (by simp);have hbl:xQ L size ⟨i,R,O⟩=.go s1→Sz (n+1) s1:=hop (by simp);have hex:ET ⟨i,R,O⟩=.go s1→Sz (n+1) s1:=Jy (by simp)
  have htx:∀ {t:By} {l:List Stp},l.length≤7→ow (i+1) (l++R) (ER t O)=.go s1→Sz (n+1) s1:=fun hl h=>Dm h hl hk (fun O' hO=>by
   obtain ⟨h1,h2,h3⟩:=OC hO
   exact ⟨by rw [h1];exact bO h0.opn,h2,fun q hq=>by obtain ⟨o,ho,e⟩:=h3 q hq;rw [e];exact bO (h0.kids o ho)⟩)
  have hkd:∀ {t:By} {l:List Stp},l.length≤7→ow (i+1) (l++R) (ES t O)=.go s1→Sz (n+1) s1:=fun hl h=>Dm h hl hk (fun O' hO=>by
   obtain ⟨h1,h2,h3⟩:=OD hO
   exact ⟨by rw [h1];exact bO h0.opn,h2,fun q hq=>by obtain ⟨o,ho,e⟩:=h3 q hq;rw [e];exact bO (h0.kids o ho)⟩)
  have hwr:∀ {t:By} {l:List Stp},l.length≤7→ow i (l++R) (oQ t O)=.go s1→Sz (n+1) s1:=fun hl h=>Dm h hl hk (fun O' hO=>by
   obtain ⟨h1,h2,h3⟩:=Fb (n:=n+1) hO (fun o ho=>bO (h0.kids o ho)) (by omega)
   exact ⟨by rw [h1];exact iq h0.opn,h2,h3⟩)
  change exec L size x ⟨i,R,O⟩=.go s1 at hs
  cases x with
  | word t=>simp only [exec] at hs;split at hs <;> cases hs;exact hsame _
  | lines m=>simp only [exec] at hs;split at hs <;> cases hs;exact hsame _;exact GQ (l:=[.m m,.more m]) h0 (by simp) hk
  | more m=>simp only [exec] at hs;split at hs;exact Jy (by simp) hs;cases hs;exact hsame _
  | jD m=>simp only [exec] at hs;split at hs;cases hs;exact hsame _;exact Jy (by simp) hs
  | kJ m=>simp only [exec] at hs;split at hs;exact Jy (by simp) hs;cases hs;exact hsame _
  | m k =>
   change bD L size k ⟨i,R,O⟩=.go s1 at hs
   cases k with
   | decl=>simp only [bD] at hs;(repeat' split at hs);exact hop (by simp) hs;exact hvar hs;exact hop (by simp) hs;cases hs
   | vL=>simp only [bD] at hs;cases hs;exact hsame _
   | nJ=>simp only [bD] at hs;split at hs <;> cases hs;exact hsame _
   | name=>simp only [bD] at hs;split at hs;exact htx (l:=[]) (by simp) hs;cases hs
   | params=>exact hop (by simp) hs
   | result =>
    simp only [bD] at hs
    split at hs
    ·split at hs
     ·cases hs
     ·cases O with
      | nil=>exact absurd rfl h0.Fa
      | cons a r =>
       cases hs
       exact zg (l:=[]) h0 (by simp) (bO h0.opn) (by simp) (fun q hq=>by
        rcases bB.1 hq with rfl|hq
        ·show (a.kids++[_]).length≤_
         rw [aO];exact iq (h0.kids a bF)
        ·exact bO (h0.kids q (aV _ hq))) hk
    ·exact hop (by simp) hs
   | block=>exact hbl hs
   | fin =>
    simp only [bD,BH] at hs
    split at hs
    ·cases hs
    ·exact Dm (l:=[]) hs (by simp) hk (fun O' hO=>by
      obtain ⟨h1,h2,h3⟩:=LC hO h0.kids
      exact ⟨aJ h1 (bO h0.opn),h2,h3⟩)
   | field=>exact hop (by simp) hs
   | param=>exact hop (by simp) hs
   | typeOf=>simp only [bD] at hs;(repeat' split at hs);all_goals exact hop (by simp) hs
   | stmt=>simp only [bD] at hs;(repeat' split at hs);exact hvar hs;exact hop (by simp) hs;exact hif hs;exact hop (by simp) hs;exact hbl hs;exact hop (by simp) hs
   | returned=>simp only [bD] at hs;split at hs;exact hex hs;cases hs;exact hsame _
   | expr=>exact hex hs
   | assigned=>simp only [bD] at hs;(repeat' split at hs);exact hkd (l:=[.m .pre,.m .between]) (by simp) hs;exact hkd (l:=[.m .pre,.m .between]) (by simp) hs;cases hs;exact hsame _
   | otherwise=>simp only [bD] at hs;split at hs;exact Jy (by simp) hs;cases hs;exact hsame _
   | pre=>simp only [bD] at hs;split at hs;exact hop (by simp) hs;exact Jy (by simp) hs
   | between =>
    simp only [bD,ru] at hs
    split at hs
    ·cases hs
    ·split at hs
     ·cases hs
     ·rename_i O2 h2
      have h4:O2.length≤n+1∧O2≠[]∧∀ q∈O2,q.kids.length≤n+1:=by
       cases O with
       | nil=>exact absurd rfl h0.Fa
       | cons o r =>
        have h5:=Bf (n:=n) r o h2 (bO (h0.kids o bF)) (fun q hq=>h0.kids q (aV _ hq))
        exact ⟨aJ h5.1 h0.opn,h5.2⟩
      split at hs
      ·exact Dm hs (by simp) hk (fun O' hO=>by
        obtain ⟨h1,h3,h5⟩:=Fb (n:=n+1) hO h4.2.2 (by omega)
        exact ⟨by rw [h1];exact iq h4.1,h3,h5⟩)
      ·cases hs
       exact zg (l:=[]) h0 (by simp) (bO h4.1) h4.2.1 h4.2.2 hk
   | iV=>simp only [bD] at hs;split at hs;exact hif hs;exact hbl hs
   | text=>simp only [bD] at hs;split at hs;exact htx (l:=[]) (by simp) hs;cases hs
   | behind=>simp only [bD] at hs;(repeat' split at hs);exact hwr (l:=[.word [46],.m .name,.m .fin,.m .behind]) (by simp) hs;exact hwr (l:=[.word [91],.m .expr,.word [93],.m .fin,.m .behind]) (by simp) hs;cases hs;exact hsame _
   | operand=>simp only [bD] at hs;(repeat' split at hs);all_goals exact hop (by simp) hs
   | called =>
    simp only [bD] at hs
    split at hs
    ·cases O with
     | nil=>exact absurd rfl h0.Fa
     | cons o r =>
      have hb:∀ (q:Open),q.kids=o.kids→∀ k (l:List Stp),l.length≤7→Sz (n+1) ⟨k,l++R,q :: r⟩:=fun q hq k l hl=>zg h0 hl (bO h0.opn) (by simp) (fun z hz=>by
       rcases bB.1 hz with rfl|hz
       ·rw [hq];exact bO (h0.kids o bF)
       ·exact bO (h0.kids z (aV _ hz))) hk
      dsimp only at hs
      repeat' split at hs
      ·cases hs;exact hb { o with k:=p9,t:=[] } rfl _ [.m .typeOf,.word [41]] (by simp)
      ·cases hs;exact hb { o with k:=jL,t:=[] } rfl _ [.m .typeOf,.word [44],.m .expr,.word [41]] (by simp)
      ·cases hs;exact hb { o with k:=mW } rfl _ [.jD .expr,.word [41]] (by simp)
    ·cases hs;exact hsame _
end K
namespace K
open Go.RowKit
open Go.Lib hiding intOf
open U S T
section
variable {d:Nat} {L:List bn} {size:Nat} {lv:Value} {s:St} {O:Nat→Prop}
theorem close_some {e:Int} {O O':List Open} (h:sJ e O=some O'):∃ o a r p,O=o :: a :: r∧o.close e=some p∧O'=a.add p o.f :: r:=by
 match O,h with
 | o :: a :: r,h =>
  unfold sJ at h
  dsimp only at h
  cases hc:o.close e with
  | none=>rw [hc] at h;cases h
  | some p=>rw [hc] at h;cases h;exact ⟨o,a,r,p,rfl,hc,rfl⟩
theorem U6 {W:World} (hM:Mem d L size lv s O W) (hs:Small L s) (hG:EF O W) (hk1:∀ o∈s.opn,o.kids.length<1000000) (ho1:s.opn.length<1000000) (ho:s.opn≠[]) (k:BV) (hr:bD L size k s≠.stuck) :
  Calls Tryz.prog (Ja k) #[ptr d] W (Does d L size lv s.i O W (bD L size k s)):=by
 have ho':∃ o r,s.opn=o :: r:=by
  cases h:s.opn with
  | nil=>exact absurd h ho
  | cons o r=>exact ⟨o,r,rfl⟩
 cases k with
 | decl=>exact XT hM hs
 | vL=>exact M5 hM hs
 | nJ=>exact QM hM hs
 | name=>exact XZ hM hs ho'
 | params=>exact QG hM hs
 | result=>exact Rc hM hs ho1 hr ho'
 | block=>exact Gw hM hs
 | fin =>
  have h1:bD L size .fin s=BH L size s:=rfl;rw [h1] at hr ⊢
  unfold BH at hr ⊢
  by_cases h0:s.i=0
  ·rw [au h0] at hr;exact absurd rfl hr
  ·rw [ai h0] at hr ⊢
   cases h2:sJ (tok L size (s.i - 1)).e s.opn with
   | none=>rw [h2] at hr;exact absurd rfl hr
   | some O' =>
    obtain ⟨o,a,r,p,h3,h4,rfl⟩:=close_some h2
    exact QR hM hs o a r h3 (by omega) p h4
 | field=>exact UC hM hs
 | param=>exact UB hM hs
 | typeOf=>exact QH hM hs
 | stmt=>exact XV hM hs
 | returned=>exact La hM hs
 | expr=>exact Gx hM hs
 | assigned=>exact Ld hM hs ho'
 | otherwise=>exact Jk hM hs
 | pre=>exact QI hM hs
 | between=>exact On hM hs hG hk1 hr
 | iV=>exact Jl hM hs
 | text =>
  have hi:s.i<L.length:=by
   by_cases h:s.i<L.length
   ·exact h
   ·simp only [bD,ai h] at hr;exact absurd rfl hr
  exact X0 hM hs ho' hi
 | behind=>exact Re hM hs hr
 | operand=>exact N8 hM hs
 | called=>exact QO hM hs ho'
theorem Rw (k:BV) (args:Array Value) (w:World):(callFunc (Ja k) args).run Tryz.prog w=.ok (.enter (Ja k) args) w:=by cases k <;> rfl
theorem zh {W:World} (hM:Mem d L size lv s O W) (hs:Small L s) (hG:EF O W) (hk1:∀ o∈s.opn,o.kids.length<1000000) (ho1:s.opn.length<1000000) (ho:s.opn≠[]) {x:Stp} {v:Value} (hx:qJ O W d x v) (hr:exec L size x s≠.stuck) :
  (∃ f,v=.func (.func f) #[ptr d] #[]∧(∀ args w,(callFunc f args).run Tryz.prog w=.ok (.enter f args) w)∧Calls Tryz.prog f #[ptr d] W (Does d L size lv s.i O W (exec L size x s))) ∨
  (∃ f b1 b2,v=.func (.func f) #[] #[ptr b1,ptr b2]∧(∀ args w,(callFunc f args).run Tryz.prog w=.ok (.enter f args) w)∧Calls Tryz.prog f #[ptr b1,ptr b2] W (Does d L size lv s.i O W (exec L size x s))):=by
 cases x with
 | m k=>exact .inl ⟨_,hx,Rw k,U6 hM hs hG hk1 ho1 ho k hr⟩
 | word t=>obtain ⟨b1,b2,rfl,h1,h2⟩:=hx;exact .inr ⟨_,_,_,rfl,fun _ _=>rfl,XY hM hs t b1 b2 h1 h2⟩
 | lines k=>obtain ⟨b1,b2,rfl,h1,h2⟩:=hx;exact .inr ⟨_,_,_,rfl,fun _ _=>rfl,UF hM hs k b1 b2 _ rfl h1 h2⟩
 | more k=>obtain ⟨b1,b2,rfl,h1,h2⟩:=hx;exact .inr ⟨_,_,_,rfl,fun _ _=>rfl,XX hM hs k b1 b2 _ rfl h1 h2⟩
 | jD k=>obtain ⟨b1,b2,rfl,h1,h2⟩:=hx;exact .inr ⟨_,_,_,rfl,fun _ _=>rfl,QJ hM hs k b1 b2 _ rfl h1 h2⟩
 | kJ k=>obtain ⟨b1,b2,rfl,h1,h2⟩:=hx;exact .inr ⟨_,_,_,rfl,fun _ _=>rfl,UD hM hs k b1 b2 _ rfl h1 h2⟩
theorem oh.step {W:World} {tv ov:Value} {bs:List (Option Nat)} {vs xs:List Value} {x:Stp} {R:List Stp} (hM:oh d L size lv s O tv ov bs vs xs W) (hx:s.todo=x :: R):∃ v us,vs=us++[v]∧qJ O W d x v∧oz O W d R us∧us.length=R.length:=by
 have h:=hM.todo
 rw [hx] at h;obtain ⟨v,us,h1,h2,h3⟩:=h
 exact ⟨v,us,h1,h2,h3,h3.length⟩
end
theorem GR (z:Int) (w:World):(Instr.typeAssert (.iface 124 (.int .i64 z)) 20 124 true).run Tryz.prog w=.ok (.tuple #[.int .i64 z,.bool true]) w:=by kernel_rfl
theorem Jz (w:World):(Instr.typeAssert .nilIface 20 124 true).run Tryz.prog w=.ok (.tuple #[.int .i64 0,.bool false]) w:=by kernel_rfl
theorem JA (p q:Addr) (x y z:Int) (older:List PanicEntry) (w:World) (hc:w.cell? p=some (.int .i64 x)) (hz:w.frozen? p=false) (hc':(w.setCell p (.int .i64 z)).cell? q=some (.int .i64 y)) (hz':(w.setCell p (.int .i64 z)).frozen? q=false) :
  CallsD Tryz.prog 99 #[.pointer (some p),.pointer (some q)] (.panicking ({ v:=.iface 124 (.int .i64 z),recovered:=false } :: older)) w fun e u' w' =>
   e=.returned (.tuple #[])∧u'=.panicking ({ v:=.iface 124 (.int .i64 z),recovered:=true } :: older)∧w'=(w.setCell p (.int .i64 z)).setCell q (.int .i64 101):=by
 refine callsD_of_wpS Tryz.func99 rfl fun c₀ cs hu=>?_
 apply wpS_seq
 apply wpS_region
 simp [wpOpsS,go_sem,recoverD,hu,GR,Tryz.ntmps99,Exit.thenS]
 apply wpS_seq
 apply wpS_region
 simp [wpOpsS,go_sem,Exit.thenS]
 refine wpS_cond (t:=true) (by simp [Act.eval,Array.replicate]) ?_;simp only [if_true]
 apply wpS_region
 simp [wpOpsS,go_sem,hc,hz,hc',hz',bodyPostS,results,Tryz.results99]
theorem LD (p q:Addr) (w:World) :
  CallsD Tryz.prog 99 #[.pointer (some p),.pointer (some q)] .returning w fun e u' w'=>e=.returned (.tuple #[])∧u'=.returning∧w'=w:=by
 refine callsD_of_wpS Tryz.func99 rfl fun c₀ cs hu=>?_
 apply wpS_seq
 apply wpS_region
 simp [wpOpsS,go_sem,recoverD,hu,Jz,Tryz.ntmps99,Exit.thenS]
 apply wpS_seq
 apply wpS_region
 simp [wpOpsS,go_sem,Exit.thenS]
 refine wpS_cond (t:=false) (by simp [Act.eval,Array.replicate]) ?_;simp only [Bool.false_eq_true,if_false];refine wpS_of_wp (wp_skip ?_)
 cases c₀
 simp_all [bodyPostS,results,Tryz.results99]
end K
namespace K
open Go.Lib Go.Proofs.YtojoahlpgmnbnaaGreatDoor.U Go.Proofs.YtojoahlpgmnbnaaGreatDoor.S Go.Proofs.YtojoahlpgmnbnaaGreatDoor.T
inductive xA where
 | part (p:Pt)
 | bad (j:Nat)
variable (L:List bn) (size:Nat)
def Comes (n:Nat) (s:St):xA→Prop
 | .part p=>∃ i f,Goes L size n s ⟨i,[],[root.add p f]⟩
 | .bad j=>uX L size n s j
variable {L size}
theorem OE {n:Nat} {s:St} {o:xA} (h:Comes L size n s o) (ht:s.todo=[]):∃ p f,o=.part p∧s.opn=[root.add p f]:=by
 have hst:fA L size s=.stuck:=by unfold fA;rw [ht]
 cases o with
 | part p =>
  obtain ⟨i,f,h⟩:=h
  cases h with
  | refl=>exact ⟨p,f,rfl,rfl⟩
  | step h1 _=>rw [hst] at h1;cases h1
 | bad j =>
  obtain ⟨s',h,h2,_⟩:=h
  cases h with
  | refl=>rw [hst] at h2;cases h2
  | step h1 _=>rw [hst] at h1;cases h1
theorem LF {n:Nat} {s:St} {o:xA} (h:Comes L size n s o) (ht:s.todo≠[]):(fA L size s=.wrong∧o=.bad s.i)∨∃ m s1,n=m+1∧fA L size s=.go s1∧Comes L size m s1 o:=by
 cases o with
 | part p =>
  obtain ⟨i,f,h⟩:=h
  cases h with
  | refl=>exact absurd rfl ht
  | step h1 h2=>exact .inr ⟨_,_,rfl,h1,i,f,h2⟩
 | bad j =>
  obtain ⟨s',h,h2,h3⟩:=h
  cases h with
  | refl=>exact .inl ⟨h2,by rw [h3]⟩
  | step h1 h4=>exact .inr ⟨_,_,rfl,h1,s',h4,h2,h3⟩
def pg (L:List bn):xA:=match decl L (8*L.length+10) with
 | .ok p i=>if i+bE L i<L.length then .bad (i+bE L i) else .part p
 | .bad i=>.bad i
theorem JB (hL:∀ t∈L,vN t):Comes L size (100*L.length+100) begun (pg L):=by
 have h:=U3 size hL (8*L.length+10) (ae _)
 unfold pg
 cases h1:decl L (8*L.length+10) with
 | bad i=>rw [h1] at h;exact h
 | ok p i =>
  rw [h1] at h;dsimp only at h ⊢
  by_cases h2:i+bE L i<L.length
  ·rw [au h2] at h ⊢;exact h
  ·rw [ai h2] at h ⊢
   obtain ⟨_,f,h3⟩:=h
   exact ⟨_,f,h3⟩
end K
namespace K
open Go.RowKit
open Go.Lib hiding intOf
open U S T
section
variable {d:Nat} {L:List bn} {size:Nat} {lv:Value} {s:St} {O:Nat→Prop}
theorem Rx {W:World} {x:Stp} {R:List Stp} (hM:Mem d L size lv s O W) (hs:s.todo=x :: R) :
  ∃ g c v O',W.cell? ⟨d,2,none⟩=some (.slice (some ⟨g,0,none⟩) (R.length+1) c)∧W.frozen? ⟨d,2,none⟩=false∧W.cell? ⟨g,R.length,none⟩=some v∧R.length+1≤c ∧
   qJ O' (W.setCell ⟨d,2,none⟩ (.slice (some ⟨g,0,none⟩) R.length c)) d x v ∧
   Mem d L size lv { s with todo:=R } O' (W.setCell ⟨d,2,none⟩ (.slice (some ⟨g,0,none⟩) R.length c))∧bN O O' W (W.setCell ⟨d,2,none⟩ (.slice (some ⟨g,0,none⟩) R.length c)):=by
 obtain ⟨tv,ov,bs,vs,xs,hM⟩:=hM;have hb:=hM.blk;obtain ⟨v,us,rfl,hx,hR,hlen⟩:=oh.step hM hs;have hT:=hM.lN;rw [hs] at hT;obtain ⟨g,c,rfl,_,hgl⟩:=hT.form (dW _)
 have hgc:R.length+1≤c:=by
  rcases hT.2 with ⟨_,h⟩|⟨_,_,_,h1,_,_,h2,_⟩
  ·exact absurd h (Nat.succ_ne_zero _)
  ·cases h1;exact h2
 have hcell:W.cell? ⟨g,R.length,none⟩=some v:=by
  rw [hT.cellAt R.length (by rw [aH];omega),aI (by omega),hlen,Nat.sub_self]
  rfl
 have ae3:Ty W g 1:=cZ hT rfl;obtain ⟨W',yc⟩:∃ W',W.setCell ⟨d,2,none⟩ (.slice (some ⟨g,0,none⟩) R.length c)=W':=⟨_,rfl⟩
 have hset:∀ k,k≠d→W'.heap[k]?=W.heap[k]?:=fun k hk=>by rw [← yc];exact aj _ _ _ _ hk
 have Yc:W'.heap[d]?=some (.cells #[lv,.int .i64 s.i,.slice (some ⟨g,0,none⟩) R.length c,ov] 123 (0,0)):=by rw [← yc];exact ay hb _
 have hsz:W'.heap.size=W.heap.size:=by rw [← yc];simp
 have ne:∀ {k:Nat} {t:TypeId},Ty W k t→t≠123→k≠d:=fun h1 h2 e=>by rw [e] at h1;exact h2 (h1.one ⟨_,_,hb⟩)
 have hOd:O d:=(hM.own d).2 (.inl rfl);have hS:bN O O W W':=⟨by rw [← yc];rfl,by rw [← yc];rfl,by rw [← yc];rfl,by omega,fun _ h=>.inl h,fun k hk hO=>hset k (fun e=>hO (e ▸ hOd))⟩
 refine ⟨g,c,v,O,by simp [World.cell?,hb],by simp [World.frozen?,hb],hcell,hgc,?_,?_,?_⟩
 ·rw [yc];exact hx.stay hS
 ·rw [yc]
  refine ⟨_,ov,bs,us,xs,Yc,hM.words.stay hS,?_,hR.stay hS,iA hM.qB (fun k hk=>hset k (ne (cZ hM.qB hk) (by decide))),gI.stay hS hM.opn (fun k hk=>hset k (ne (oC hM.opn hk) (by decide))),hM.apart,fun k=>?_⟩
  ·exact iA (zZ hT (by rw [hlen,Nat.mul_one])) (fun k hk=>hset k (fun e=>by
    obtain rfl:g=k:=by simpa [Value.ownBlock] using hk
    exact ne ae3 (by decide) e))
  ·exact hM.own k
 ·rw [yc];exact hS
theorem OG {W:World} (hM:Mem d L size lv s O W) (hs:s.todo=[]):∃ a c,W.cell? ⟨d,2,none⟩=some (.slice a 0 c):=by
 obtain ⟨tv,ov,bs,vs,xs,hM⟩:=hM;have hb:=hM.blk;have hT:=hM.lN;rw [hs] at hT
 rcases hT.2 with ⟨rfl,_⟩|⟨g,c,cur,rfl,_⟩
 ·exact ⟨none,0,by simp [World.cell?,hb]⟩
 ·exact ⟨some ⟨g,0,none⟩,c,by simp [World.cell?,hb]⟩
end
end K
namespace K
open Go.Lib Go.Proofs.YtojoahlpgmnbnaaGreatDoor.U Go.Proofs.YtojoahlpgmnbnaaGreatDoor.S Go.Proofs.YtojoahlpgmnbnaaGreatDoor.T
def kN (F E:Int→Int) (t:bn):bn:=⟨t.w,t.t,F t.f,E t.e⟩
mutual
def jy (F E:Int→Int):Pt→Pt
 | .mk k t f e ks=>.mk k t (F f) (E e) (my F E ks)
def my (F E:Int→Int):List Pt→List Pt
 | []=>[]
 | p :: r=>jy F E p :: my F E r
end
theorem zi (F E:Int→Int):∀ l,my F E l=l.map (jy F E)
 | []=>rfl
 | p :: r=>by rw [my,zi F E r];rfl
def via {α β:Type} (h:α→β):Out α→Out β
 | .ok a i=>.ok (h a) i
 | .bad i=>.bad i
section
variable {α β γ:Type}
theorem jb (o:Out α) (g:α→Nat→Out β) (h:β→γ):via h (o.next g)=o.next (fun a i=>via h (g a i)):=by cases o <;> rfl
theorem iO (o:Out α) (h:α→β) (g:β→Nat→Out γ):(via h o).next g=o.next (fun a i=>g (h a) i):=by cases o <;> rfl
theorem uF (h:α→β) (a:α) (i:Nat):via h (.ok a i)=.ok (h a) i:=rfl
theorem mD (h:α→β) (i:Nat):via h (.bad i)=.bad i:=rfl
theorem nH (c:Prop) [Decidable c] (h:α→β) (a b:Out α):via h (if c then a else b)=if c then via h a else via h b:=by split <;> rfl
end
section
variable (F E:Int→Int) (L:List bn)
theorem mE (x:By) (i:Nat):bH (L.map (kN F E)) x i=bH L x i:=by
 unfold bH;rw [dK];cases L[i]? <;> rfl
theorem yg (x:Int) (i:Nat):bT (L.map (kN F E)) x i=bT L x i:=by
 unfold bT;rw [dK];cases L[i]? <;> rfl
theorem Ag (i:Nat):dx (L.map (kN F E)) i=dx L i:=by
 unfold dx;rw [dK];cases L[i]? <;> rfl
theorem JC (i:Nat):fE (L.map (kN F E)) i=fE L i:=by
 unfold fE;rw [dK];cases L[i]? <;> rfl
theorem lg (x:By) (i:Nat):bJ (L.map (kN F E)) x i=bJ L x i:=by unfold bJ;rw [mE]
theorem pE (i:Nat):gG (L.map (kN F E)) i=gG L i:=by unfold gG;rw [yg,Ag]
theorem tO (i:Nat):bE (L.map (kN F E)) i=bE L i:=by
 unfold bE
 rw [← List.map_drop];generalize L.drop i=l
 induction l with
 | nil=>rfl
 | cons t r ih =>
  simp only [List.map_cons,bK]
  show (if (t.w==5)=true then _ else _:List bn).length=_
  split
  ·simp only [aH];rw [ih]
  ·rfl
variable {F E}
variable (hF:F 0=0) (hE:E 0=0)
include hF in
theorem kL (i:Nat):bQ (L.map (kN F E)) i=F (bQ L i):=by
 unfold bQ;rw [dK];cases L[i]? with
 | none=>exact hF.symm
 | some t=>rfl
include hE in
theorem GU (i:Nat):jZ (L.map (kN F E)) i=E (jZ L i):=by
 unfold jZ
 by_cases h:i=0
 ·rw [au h,au h];exact hE.symm
 ·rw [ai h,ai h,dK]
  cases L[i - 1]? with
  | none=>exact hE.symm
  | some t=>rfl
include hE in
theorem rG (k t:By) (f:Int) (ks:List Pt) (i:Nat):T.part (L.map (kN F E)) k t (F f) (my F E ks) i=via (jy F E) (T.part L k t f ks i):=by
 unfold T.part;rw [GU L hE,uF,jy]
include hE in
theorem Ah (k t:By) (f:Int) (i:Nat):T.part (L.map (kN F E)) k t (F f) [] i=via (jy F E) (T.part L k t f [] i):=rG L hE k t f [] i
include hE in
theorem qW (k t:By) (f:Int) (a:Pt) (i:Nat):T.part (L.map (kN F E)) k t (F f) [jy F E a] i=via (jy F E) (T.part L k t f [a] i):=rG L hE k t f [a] i
include hE in
theorem Ai (k t:By) (f:Int) (a b:Pt) (i:Nat):T.part (L.map (kN F E)) k t (F f) [jy F E a,jy F E b] i=via (jy F E) (T.part L k t f [a,b] i):=rG L hE k t f [a,b] i
include hE in
theorem Fe (k t:By) (f:Int) (a b c:Pt) (i:Nat):T.part (L.map (kN F E)) k t (F f) [jy F E a,jy F E b,jy F E c] i=via (jy F E) (T.part L k t f [a,b,c] i):=rG L hE k t f [a,b,c] i
theorem xh (F E:Int→Int) (l:List Pt) (p:Pt):my F E l++[jy F E p]=my F E (l++[p]):=by rw [zi,zi,List.map_append];rfl
include hF hE in
theorem JD (k:By) (l:List Pt):mJ k (my F E l)=jy F E (mJ k l):=by
 cases l with
 | nil=>rw [my,mJ,jy,hF,hE];rfl
 | cons p r =>
  have hlast:(my F E (p :: r)).getLast?=(p :: r).getLast?.map (jy F E):=by rw [zi,List.getLast?_map]
  obtain ⟨kk,t,f,e,ks⟩:=p;rw [my,jy] at hlast ⊢;rw [mJ,mJ,jy,hlast]
  cases h:(Pt.mk kk t f e ks :: r).getLast? with
  | none=>rw [List.getLast?_eq_none_iff] at h;cases h
  | some q =>
   obtain ⟨a1,a2,a3,a4,a5⟩:=q;simp only [Option.map_some];rw [jy,my,jy]
include hF hE
theorem tQ:∀ (n i:Nat),typed (L.map (kN F E)) n i=via (jy F E) (typed L n i)
 | 0,i=>rfl
 | n+1,i=>by
  simp only [typed,nH,jb,mE,lg,pE,tQ n,iO,kL L hF,Ah L hE,qW L hE]
theorem Ff (n:Nat) (k:By) (i:Nat):param (L.map (kN F E)) n k i=via (jy F E) (param L n k i):=by
 simp only [param,jb,pE,tQ L hF hE,iO,kL L hF,qW L hE]
theorem Dn (m:Nat):∀ (n i:Nat) (acc:List Pt),params (L.map (kN F E)) m n i (my F E acc)=via (my F E) (params L m n i acc)
 | 0,i,acc=>rfl
 | n+1,i,acc=>by
  simp only [params,nH,jb,mE,lg,Ff L hF hE,iO,xh,Dn m n,uF]
theorem Dp (m:Nat):∀ (n i:Nat) (acc:List Pt),fields (L.map (kN F E)) m n i (my F E acc)=via (my F E) (fields L m n i acc)
 | 0,i,acc=>rfl
 | n+1,i,acc=>by
  simp only [fields,nH,jb,mE,tO,Ff L hF hE,iO,xh,Dp m n,uF,mD]
omit hF hE in
structure ae4 (F E:Int→Int) (L:List bn) (n:Nat):Prop where
 expr:∀ than i,expr (L.map (kN F E)) n than i=via (jy F E) (expr L n than i)
 exprs:∀ than f a i,exprs (L.map (kN F E)) n than (F f) (jy F E a) i=via (jy F E) (exprs L n than f a i)
 cr:∀ i,cr (L.map (kN F E)) n i=via (jy F E) (cr L n i)
 tails:∀ f a i,tails (L.map (kN F E)) n (F f) (jy F E a) i=via (jy F E) (tails L n f a i)
 operand:∀ i,operand (L.map (kN F E)) n i=via (jy F E) (operand L n i)
 args:∀ i acc,args (L.map (kN F E)) n i (my F E acc)=via (my F E) (args L n i acc)
omit hF hE in
theorem map_mk (F E:Int→Int) (k t:By) (f e:Int) (ks:List Pt):Pt.mk k t (F f) (E e) (my F E ks)=jy F E (.mk k t f e ks):=by rw [jy]
omit hF hE in
theorem U7 (F E:Int→Int) (k t:By) (f e:Int) (a:Pt):Pt.mk k t (F f) (E e) [jy F E a]=jy F E (.mk k t f e [a]):=map_mk F E k t f e [a]
omit hF hE in
theorem Nk (F E:Int→Int) (k t:By) (f e:Int) (a b:Pt):Pt.mk k t (F f) (E e) [jy F E a,jy F E b]=jy F E (.mk k t f e [a,b]):=map_mk F E k t f e [a,b]
theorem aa8:∀ n,ae4 F E L n
 | 0=>⟨fun _ _=>by simp only [expr,mD],fun _ _ _ _=>by simp only [exprs,mD],fun _=>by simp only [cr,mD],fun _ _ _=>by simp only [tails,mD],fun _=>by simp only [operand,mD],fun _ _=>by simp only [args,mD]⟩
 | n+1=>by
  have ih:=aa8 n
  have a0:∀ j,args (L.map (kN F E)) n j []=via (my F E) (args L n j []):=fun j=>ih.args j []
  have hl:(L.map (kN F E)).length=L.length:=fM _
  refine ⟨fun than i=>?_,fun than f a i=>?_,fun i=>?_,fun f a i=>?_,fun i=>?_,fun i acc=>?_⟩
  ·simp only [expr,jb,ih.cr,iO,kL L hF,ih.exprs]
  ·simp only [exprs,nH,jb,ih.expr,iO,Ag,JC,GU L hE,Nk,ih.exprs,uF,hl]
  ·simp only [cr,nH,jb,mE,ih.cr,ih.operand,ih.tails,iO,kL L hF,qW L hE]
  ·simp only [tails,nH,jb,mE,lg,pE,ih.expr,iO,GU L hE,U7,Nk,ih.tails,uF]
  ·simp only [operand,nH,jb,mE,yg,Ag,lg,pE,ih.expr,tQ L hF hE,a0,iO,kL L hF,rG L hE,Ah L hE,qW L hE,Ai L hE,uF]
  ·simp only [args,nH,jb,mE,lg,ih.expr,iO,xh,ih.args,uF]
theorem zk (n i:Nat):iU (L.map (kN F E)) n i=via (jy F E) (iU L n i):=by
 simp only [iU,jb,lg,pE,tQ L hF hE,iO,kL L hF,qW L hE]
omit hF hE in
structure ae5 (F E:Int→Int) (L:List bn) (n:Nat):Prop where
 block:∀ i,block (L.map (kN F E)) n i=via (jy F E) (block L n i)
 stmts:∀ i acc,stmts (L.map (kN F E)) n i (my F E acc)=via (my F E) (stmts L n i acc)
 branch:∀ i,branch (L.map (kN F E)) n i=via (jy F E) (branch L n i)
 stmt:∀ i,stmt (L.map (kN F E)) n i=via (jy F E) (stmt L n i)
theorem aa9:∀ n,ae5 F E L n
 | 0=>⟨fun _=>by simp only [block,mD],fun _ _=>by simp only [stmts,mD],fun _=>by simp only [branch,mD],fun _=>by simp only [stmt,mD]⟩
 | n+1=>by
  have ih:=aa9 n;have he:=aa8 L hF hE n
  have s0:∀ j,stmts (L.map (kN F E)) n j []=via (my F E) (stmts L n j []):=fun j=>ih.stmts j []
  refine ⟨fun i=>?_,fun i acc=>?_,fun i=>?_,fun i=>?_⟩
  ·simp only [block,jb,lg,tO,s0,iO,kL L hF,rG L hE]
  ·simp only [stmts,nH,jb,mE,tO,ih.stmt,iO,xh,ih.stmts,uF,mD]
  ·simp only [branch,nH,jb,mE,lg,he.expr,ih.block,ih.branch,iO,kL L hF,Ai L hE,Fe L hE]
  ·simp only [stmt,nH,jb,mE,yg,zk L hF hE,ih.branch,ih.block,he.expr,iO,kL L hF,Ah L hE,qW L hE,Ai L hE]
theorem Ry (n:Nat):decl (L.map (kN F E)) n=via (jy F E) (decl L n):=by
 have hb:=aa9 L hF hE n
 have p0:∀ j,params (L.map (kN F E)) n n j []=via (my F E) (params L n n j []):=fun j=>Dn L hF hE n n j []
 have f0:∀ j,fields (L.map (kN F E)) n n j []=via (my F E) (fields L n n j []):=fun j=>Dp L hF hE n n j []
 have e0:∀ m,(.ok [] m:Out (List Pt))=via (my F E) (.ok [] m):=fun m=>rfl
 have e1:∀ x m,(.ok [jy F E x] m:Out (List Pt))=via (my F E) (.ok [x] m):=fun x m=>rfl
 have hf:si (L.map (kN F E)) n 0=via (jy F E) (si L n 0):=by
  simp only [si,jb,mE,lg,pE,p0,tQ L hF hE,hb.block,kL L hF,iO]
  congr 1;funext _ j;congr 1;funext s k;congr 1;funext _ m
  rw [show (if bH L [41] m then (.ok [] (m+1):Out (List Pt)) else via (my F E) (params L n n m []))=via (my F E) (if bH L [41] m then .ok [] (m+1) else params L n n m []) by split <;> rfl,iO]
  congr 1;funext ps o
  rw [show (if bH L [123] o then (.ok [] o:Out (List Pt)) else (typed L n o).next fun x q=>.ok [jy F E x] q)=via (my F E) (if bH L [123] o then .ok [] o else (typed L n o).next fun x q=>.ok [x] q) by
   split
   ·rfl
   ·rw [jb];rfl,iO]
  congr 1;funext rs q
  congr 1;funext b r
  rw [JD hF hE,JD hF hE,Fe L hE]
 have hr:record (L.map (kN F E)) n 0=via (jy F E) (record L n 0):=by
  simp only [record,jb,lg,pE,tO,f0,iO,kL L hF,rG L hE]
 simp only [decl,mE,hf,hr,zk L hF hE,nH,mD]
end
def xA.map (F E:Int→Int):xA→xA
 | .part p=>.part (jy F E p)
 | .bad j=>.bad j
theorem Rz {F E:Int→Int} (L:List bn) (hF:F 0=0) (hE:E 0=0):pg (L.map (kN F E))=(pg L).map F E:=by
 unfold pg
 rw [Ry L hF hE,fM]
 cases decl L (8*L.length+10) with
 | bad i=>rfl
 | ok p i =>
  simp only [uF,tO]
  split <;> rfl
def Yu:Pt→Int
 | .mk _ _ _ e _=>e
def lastOf (a:Nat) (p:Pt):Nat:=if Yu p=0 then a else (Yu p).toNat
mutual
def Wi (L:List bn):Pt→Nat→Nat→Prop
 | .mk _ _ f e ks,a,b=>(f=0∧e=0∧ks=[])∨∃ i j:Nat,f=(i:Int)+1∧e=(j:Int)∧a≤i∧i<j∧j≤b∧j≤L.length∧bT L 5 (j - 1)=false∧Aj L ks i j
def Aj (L:List bn):List Pt→Nat→Nat→Prop
 | [],_,_=>True
 | p :: r,a,b=>Wi L p a b∧Aj L r (lastOf a p) b
end
def Idx (L:List bn):Prop:=∀ (i:Nat) (t:bn),L[i]?=some t→t.f=(i:Int)+1∧t.e=(i:Int)+1
structure Ends (L:List bn) (i j:Nat):Prop where
 lt:i<j
 le:j≤L.length
 ns:bT L 5 (j - 1)=false
structure Rd (L:List bn) (i j:Nat) (p:Pt):Prop extends Ends L i j where
 wi:Wi L p i j
 nz:0<Yu p
section
variable {α β:Type} {L:List bn} {i j a b a' b':Nat} {p:Pt}
theorem bW {o:Out α} {f:α→Nat→Out β} {y:β} {k:Nat}:o.next f=.ok y k ↔ ∃ x i,o=.ok x i∧f x i=.ok y k:=by
 cases o with
 | ok x i=>exact Iff.intro (fun h=>⟨x,i,rfl,h⟩) (by rintro ⟨_,_,h1,h2⟩;cases h1;exact h2)
 | bad i=>exact Iff.intro (fun h=>by cases h) (by rintro ⟨_,_,h1,_⟩;cases h1)
theorem Ends.mono (h:Ends L i j) (hi:a≤i):Ends L a j:=⟨Nat.lt_of_le_of_lt hi h.lt,h.le,h.ns⟩
theorem Wi.mono:∀ {p:Pt},Wi L p a b→a'≤a→b≤b'→Wi L p a' b'
 | .mk k t f e ks,h,ha,hb=>by
  unfold Wi at h ⊢
  rcases h with h|⟨i,j,h1,h2,h3,h4,h5,h6⟩
  ·exact .inl h
  ·exact .inr ⟨i,j,h1,h2,aJ ha h3,h4,aJ h5 hb,h6⟩
theorem Wi.last:∀ {p:Pt},Wi L p a b→lastOf a p≤max a b
 | .mk k t f e ks,h=>by
  unfold Wi at h
  rcases h with ⟨h1,h2,h3⟩|⟨i,j,h1,h2,h3,h4,h5,h6⟩
  ·subst h1 h2
   show (if (0:Int)=0 then a else _)≤_
   rw [au rfl];omega
  ·subst h2
   show (if (j:Int)=0 then a else (j:Int).toNat)≤_
   split <;> omega
theorem JE (h:a'≤a):lastOf a' p≤lastOf a p:=by unfold lastOf;split <;> omega
theorem Aj.mono:∀ {l:List Pt} {a a':Nat},Aj L l a b→a'≤a→b≤b'→Aj L l a' b'
 | [],_,_,_,_,_=>by unfold Aj;trivial
 | p :: r,_,_,h,ha,hb=>by
  unfold Aj at h ⊢
  exact ⟨h.1.mono ha hb,h.2.mono (JE ha) hb⟩
theorem Aj.nil:Aj L [] a b:=by unfold Aj;trivial
theorem Aj.snoc {m:Nat}:∀ {l:List Pt} {a:Nat},Aj L l a m→Wi L p m b→a≤m→m≤b→Aj L (l++[p]) a b
 | [],a,_,h,ha,_=>by
  show Aj L [p] a b
  unfold Aj
  exact ⟨h.mono ha (ae _),.nil⟩
 | q :: r,a,hl,h,ha,hb=>by
  show Aj L (q :: (r++[p])) a b
  unfold Aj at hl ⊢
  have h2:=hl.1.last
  exact ⟨hl.1.mono (ae _) hb,hl.2.snoc h (by omega) hb⟩
theorem Aj.one (h:Wi L p a b):Aj L [p] a b:=by unfold Aj;exact ⟨h,.nil⟩
theorem Aj.two {q:Pt} {m:Nat} (h:Wi L p a m) (k:Wi L q m b) (ha:a≤m) (hb:m≤b):Aj L [p,q] a b:=Aj.snoc (l:=[p]) (.one h) k ha hb
section
variable (hI:Idx L)
include hI
structure RdE (L:List bn) (n:Nat):Prop where
 expr:∀ than i p j,expr L n than i=.ok p j→Rd L i j p
 exprs:∀ than f a i p j i0,exprs L n than f a i=.ok p j→f=bQ L i0→Rd L i0 i a→Rd L i0 j p
 cr:∀ i p j,cr L n i=.ok p j→Rd L i j p
 tails:∀ f a i p j i0,tails L n f a i=.ok p j→f=bQ L i0→Rd L i0 i a→Rd L i0 j p
 operand:∀ i p j,operand L n i=.ok p j→Rd L i j p
 args:∀ i acc l j,args L n i acc=.ok l j→Ends L i j∧∀ a,a≤i→Aj L acc a i→Aj L l a j
structure RdS (L:List bn) (n:Nat):Prop where
 block:∀ i p j,block L n i=.ok p j→Rd L i j p
 stmts:∀ i acc l j,stmts L n i acc=.ok l j→i≤j∧∀ a,a≤i→Aj L acc a i→Aj L l a j
 branch:∀ i p j,branch L n i=.ok p j→Rd L i j p
 stmt:∀ i p j,stmt L n i=.ok p j→Rd L i j p
end
end
end K
namespace Q
open Go.Lib Go.Proofs.YtojoahlpgmnbnaaGreatDoor.U Go.Proofs.YtojoahlpgmnbnaaGreatDoor.S
def kw (x:By):Bool:=x==[102,117,110,99]||x==[118,97,114]||x==[116,121,112,101]
def ng (l:By):Bool:=kw (l.takeWhile rV)
def yN (s:By) (i:Nat):Bool:=(decide (i=0)||decide (s[i - 1]?=some 10))&&ng (s.drop i)
theorem RE {c:UInt8} (h:mo c=false) (x:By):kw (c :: x)=false:=by
 unfold kw
 have h1:¬ c=102:=by rintro rfl;simp [mo] at h
 have h2:¬ c=118:=by rintro rfl;simp [mo] at h
 have h3:¬ c=116:=by rintro rfl;simp [mo] at h
 simp [h1,h2,h3]
theorem Ak {c:UInt8} (h:mo c=false) (x:By):ng (c :: x)=false:=by
 unfold ng
 rw [bK]
 split
 ·exact RE h _
 ·rfl
theorem Dq (a b:By):ng (a++10 :: b)=ng a:=by unfold ng;rw [MO (show rV 10=false by decide)]
theorem LG {s:By} {a:Nat} {t:bn} {r:List bn} (h:yO s a (t :: r)):(a:Int)≤t.f:=by
 cases h with
 | cons h _ _=>rw [h.from_];have:=h.le;omega
theorem LH {c:UInt8} (h:S.blank c=true):mo c=false:=by
 unfold S.blank at h
 simp at h
 rcases h with ((rfl|rfl)|rfl)|rfl <;> decide
theorem LJ (r:Bool) (l:By):(fD r l=[]→ng l=false)∧∀ t u,fD r l=t :: u→(0<t.f→ng l=false)∧(¬ 0<t.f→ng l=kw t.t):=by
 cases l with
 | nil=>exact ⟨fun _=>rfl,fun t u h=>by cases h⟩
 | cons c x =>
  have hri:∀ p,p≤(c :: x).length→yO (c :: x) p (jJ r (c :: x).length ((c :: x).drop p) p false):=fun p hp =>
   nQ r (c :: x) _ p p false (ae _) hp (BU _ _)
  have vk:∀ p,1≤p→p≤(c :: x).length→mo c=false→∀ L,jJ r (c :: x).length ((c :: x).drop p) p false=L →
    (L=[]→ng (c :: x)=false)∧∀ t u,L=t :: u→(0<t.f→ng (c :: x)=false)∧(¬ 0<t.f→ng (c :: x)=kw t.t):=fun p h1 h2 h3 L hL=>by
   refine ⟨fun _=>Ak h3 x,fun t u h=>⟨fun _=>Ak h3 x,fun h4=>?_⟩⟩;have:=hri p h2;rw [hL,h] at this;have:=LG this
   omega
  have hsc:fD r (c :: x)=jJ r ((c :: x).length+1) (c :: x) 0 false:=rfl;simp only [jJ] at hsc;rw [ai (by simp)] at hsc
  by_cases hb:S.blank c=true
  ·rw [au hb] at hsc
   rw [hsc]
   exact vk 1 (ae _) (by simp) (LH hb) _ rfl
  ·rw [ai hb] at hsc
   by_cases hk:0<eG (c :: x)
   ·rw [au hk,bA] at hsc
    rw [hsc];refine vk _ hk (uA _) ?_ _ rfl
    match x,hk with
    | [],hk=>simp [eG] at hk
    | b :: y,hk =>
     simp only [eG] at hk
     split at hk
     ·rename_i h;rw [h.1];rfl
     ·omega
   ·rw [ai hk] at hsc
    rw [hsc];refine ⟨fun h=>by (cases h),fun t u h=>?_⟩;simp only [List.cons.injEq] at h;obtain ⟨rfl,_⟩:=h;refine ⟨fun h=>by simp at h,fun _=>?_⟩;simp only;have hwb:=(lL r (l:=c :: x) (by simp)).1
    by_cases hl:mo c=true
    ·have hn:gQ (c :: x)=(x.takeWhile rV).length+1:=by simp only [gQ,hl,if_true];omega
     have hw:(eX r (c :: x)).2=gQ (c :: x):=by
      unfold eX
      rw [au (by omega)]
     rw [hw,hn,List.take_succ_cons,MP]
     unfold ng
     rw [bK,au (by unfold rV;rw [hl];rfl)]
    ·have hl':mo c=false:=by simpa using hl
     obtain ⟨m,hm⟩:∃ m,(eX r (c :: x)).2=m+1:=⟨(eX r (c :: x)).2 - 1,by omega⟩;rw [hm,List.take_succ_cons,RE hl',Ak hl']
end Q
namespace K
open Go.Lib Go.Proofs.YtojoahlpgmnbnaaGreatDoor.U Go.Proofs.YtojoahlpgmnbnaaGreatDoor.S Go.Proofs.YtojoahlpgmnbnaaGreatDoor.T
theorem Yv:∀ x∈mq,zS x=true∨mo (x.headD 0)=false:=by decide
theorem GV:∀ x∈mq,kF (x.headD 0)=false∧x.headD 0≠34∧x.headD 0≠59∧x≠[]:=by decide
theorem Dr:∀ x∈weight,mo (x.headD 0)=false∧kF (x.headD 0)=false∧x.headD 0≠34∧x.headD 0≠59∧x≠[]:=by decide
theorem OH (right:Bool) (c:UInt8) (r:By) (f e:Int):vN ⟨(eX right (c :: r)).1,(c :: r).take (eX right (c :: r)).2,f,e⟩:=by
 have hb:=lL right (l:=c :: r) (by simp);obtain ⟨k,hk⟩:∃ k,(eX right (c :: r)).2=k+1:=⟨(eX right (c :: r)).2 - 1,by omega⟩
 have hd:((c :: r).take (eX right (c :: r)).2).headD 0=c:=by rw [hk];rfl
 have hw:eX right (c :: r)=eX right (c :: r):=rfl;obtain ⟨x,hx⟩:∃ x,(c :: r).take (eX right (c :: r)).2=x:=⟨_,rfl⟩;rw [hx] at hd ⊢
 unfold eX at hx ⊢
 split at hx
 ·rename_i h1
  rw [au h1];dsimp only at hx ⊢;rw [hx]
  have hl:mo c=true:=by
   by_cases h:mo c=true
   ·exact h
   ·have h2:gQ (c :: r)=0:=by simp only [gQ];rw [ai h]
    omega
  refine ⟨by dsimp only;split <;> decide,fun h=>?_,fun h=>?_⟩
  ·rcases Yv x h with h2|h2
   ·dsimp only;rw [au h2];exact .inr rfl
   ·rw [hd,hl] at h2;cases h2
  ·have h2:=(Dr x h).1
   rw [hd,hl] at h2;cases h2
 ·rename_i h1
  rw [ai h1]
  split at hx
  ·rename_i h2
   rw [au h2]
   have hl:kF c=true:=by
    unfold nI at h2
    by_cases h:kF c=true
    ·exact h
    ·rw [bK,ai h] at h2;exact absurd h2 (by decide)
   refine ⟨(by decide:(1:Int)≠-1),fun h=>?_,fun h=>?_⟩
   ·have h3:=(GV x h).1;rw [hd,hl] at h3;cases h3
   ·have h3:=(Dr x h).2.1;rw [hd,hl] at h3;cases h3
  ·rename_i h2
   rw [ai h2]
   split at hx
   ·rename_i h3
    rw [au h3]
    have hl:c=34:=by
     by_cases h:c=34
     ·exact h
     ·have h2:gB (c :: r)=0:=by simp only [gB];rw [ai h]
      omega
    refine ⟨(by decide:(2:Int)≠-1),fun h=>?_,fun h=>?_⟩
    ·exact absurd (hd.trans hl) (GV x h).2.1
    ·exact absurd (hd.trans hl) (Dr x h).2.2.1
   ·rename_i h3
    rw [ai h3]
    split at hx
    ·rename_i h4
     rw [au h4]
     have hl:c=59:=by simpa using h4
     refine ⟨(by decide:(5:Int)≠-1),fun h=>?_,fun h=>?_⟩
     ·exact absurd (hd.trans hl) (GV x h).2.2.1
     ·exact absurd (hd.trans hl) (Dr x h).2.2.2.1
    ·rename_i h4
     rw [ai h4]
     exact ⟨(by decide:(4:Int)≠-1),fun _=>.inl rfl,fun _=>rfl⟩
theorem Fg (f e:Int):vN ⟨5,[],f,e⟩:=⟨(by decide:(5:Int)≠-1),fun h=>absurd rfl (GV [] h).2.2.2,fun h=>absurd rfl (Dr [] h).2.2.2.2⟩
theorem rH (right:Bool):∀ (n:Nat) (l:By) (pos:Nat) (ended:Bool),∀ t∈jJ right n l pos ended,vN t
 | 0,_,_,_,t,h=>by cases h
 | n+1,[],pos,ended,t,h=>by
  simp only [jJ] at h
  split at h
  ·rw [List.mem_singleton.1 h];exact Fg _ _
  ·cases h
 | n+1,c :: r,pos,ended,t,h=>by
  simp only [jJ] at h
  split at h
  ·rcases bB.1 h with rfl|h
   ·exact Fg _ _
   ·exact rH right n _ _ _ t h
  ·split at h
   ·exact rH right n _ _ _ t h
   ·split at h
    ·exact rH right n _ _ _ t h
    ·rcases bB.1 h with rfl|h
     ·exact OH right c r _ _
     ·exact rH right n _ _ _ t h
theorem Fh (right:Bool) (l:By):∀ t∈fD right l,vN t:=rH right _ _ _ _
def wt (t:bn):Int × By:=(t.w,t.t)
def FF (L:List bn) (x:Int):Int:=if x≤0 then 0 else match L[x.toNat - 1]? with
 | some t=>t.f
 | none=>0
def EE (L:List bn) (x:Int):Int:=if x≤0 then 0 else match L[x.toNat - 1]? with
 | some t=>t.e
 | none=>0
def RG (L:List bn):List bn:=L.mapIdx fun i t=>⟨t.w,t.t,(i:Int)+1,(i:Int)+1⟩
theorem aba {L:List bn} {i:Nat} {t:bn} (h:L[i]?=some t):FF L ((i:Int)+1)=t.f∧EE L ((i:Int)+1)=t.e:=by
 have h1:((i:Int)+1).toNat - 1=i:=by omega
 unfold FF EE
 rw [ai (by omega),ai (by omega),h1,h]
 exact ⟨rfl,rfl⟩
theorem U8 {L L':List bn} (h:L'.map wt=L.map wt):(RG L).map (kN (FF L') (EE L'))=L':=by
 refine List.ext_getElem? fun i=>?_
 have h1:=congrArg (fun l:List (Int × By)=>l[i]?) h;rw [dK,dK] at h1
 unfold RG
 rw [dK,List.getElem?_mapIdx]
 cases h2:L[i]? with
 | none=>rw [h2] at h1;cases h3:L'[i]? with
  | none=>rfl
  | some u=>rw [h3] at h1;cases h1
 | some t=>rw [h2] at h1;cases h3:L'[i]? with
  | none=>rw [h3] at h1;cases h1
  | some u =>
   rw [h3] at h1;obtain ⟨h4,h5⟩:=aba h3;simp only [Option.map_some,kN,bS];simp only [Option.map_some,bS,wt,Prod.mk.injEq] at h1;rw [h4,h5,← h1.1,← h1.2]
theorem RH {L L':List bn} (h:L'.map wt=L.map wt):pg L'=(pg (RG L)).map (FF L') (EE L'):=by
 rw [← Rz (RG L) (F:=FF L') (E:=EE L') rfl rfl,U8 h]
structure Ups (F E:Int→Int) (n:Nat) (lo hi:Int):Prop where
 ff:∀ x y:Nat,1≤x→x≤y→y≤n→F x≤F y
 fe:∀ x y:Nat,1≤x→x≤y→y≤n→F x≤E y
 ef:∀ x y:Nat,1≤x→x<y→y≤n→E x≤F y
 ee:∀ x y:Nat,1≤x→x≤y→y≤n→E x≤E y
 lo:∀ x:Nat,1≤x→x≤n→lo≤F x
 hi:∀ x:Nat,1≤x→x≤n→E x≤hi
 pos:∀ x:Nat,1≤x→x≤n→0<E x
section
variable {F E:Int→Int} {L:List bn} {lo hi:Int} (U:Ups F E L.length lo hi) (hF:F 0=0) (hE:E 0=0)
include U hF hE
end
theorem JF {s:By}:∀ {L:List bn} {a:Nat},yO s a L→∀ (i:Nat) (t:bn),L[i]?=some t→(a:Int)≤t.f∧t.f≤t.e∧t.e≤(s.length:Int)∧((t.w=5∧t.t=[])∨(t.t≠[]∧t.f<t.e∧t.f<(s.length:Int)))
 | [],_,_,i,t,h=>by cases h
 | u :: r,a,hr,i,t,h=>by
  cases hr with
  | cons hk hl hr =>
   rename_i f e
   cases i with
   | zero =>
    cases h
    have h1:=hk.from_;have h2:=hk.to_;have h3:=hk.le;have h4:=hk.fe;have h5:=hk.end_;refine ⟨by omega,by omega,by omega,?_⟩
    rcases hk.text with h6|h6
    ·exact .inl ⟨h6.1,h6.2.1⟩
    ·refine .inr ⟨h6.1,?_,?_⟩
     ·have:f<e:=by
       by_cases h7:f<e
       ·exact h7
       ·have:e - f=0:=by omega
        rw [this] at h6;exact absurd h6.2 (by rw [List.take_zero];exact h6.1)
      omega
     ·have:f<s.length:=by
       by_cases h7:f<s.length
       ·exact h7
       ·rw [gy (by omega)] at h6;exact absurd h6.2 (by rw [List.take_nil];exact h6.1)
      omega
   | succ i =>
    have h1:=JF hr i t h;have h3:=hk.le;have h4:=hk.fe
    exact ⟨by omega,h1.2⟩
def gu:Pt:=.mk [] [] 0 0 []
def kS (L:List bn) (size:Nat):Pt × Int × Int:=match pg L with
 | .bad j=>(gu,(tok L size j).f,101)
 | .part p=>if 40<deep p then (gu,0,22) else (p,0,0)
mutual
def Nn:Pt→Prop
 | .mk k _ _ _ ks=>k≠[]∧pW ks
def pW:List Pt→Prop
 | []=>True
 | p :: r=>Nn p∧pW r
end
theorem pW.nil:pW []:=by unfold pW;trivial
theorem pW.cons {p:Pt} {r:List Pt} (h:Nn p) (k:pW r):pW (p :: r):=by unfold pW;exact ⟨h,k⟩
theorem pW.snoc:∀ {l:List Pt} {p:Pt},pW l→Nn p→pW (l++[p])
 | [],_,_,h=>.cons h .nil
 | q :: r,_,hl,h=>by
  unfold pW at hl
  exact .cons hl.1 (pW.snoc hl.2 h)
theorem Fj {k t:By} {f e:Int} {ks:List Pt} (hk:k≠[]) (h:pW ks):Nn (.mk k t f e ks):=by unfold Nn;exact ⟨hk,h⟩
section
variable {L:List bn}
theorem iC {k t:By} {f:Int} {ks:List Pt} {j m:Nat} {p:Pt} (h:T.part L k t f ks j=.ok p m) (hk:k≠[]) (hs:pW ks):Nn p:=by
 unfold T.part at h;cases h;exact Fj hk hs
theorem rJ:∀ (n i:Nat) {p:Pt} {j:Nat},typed L n i=.ok p j→Nn p
 | 0,_,_,_,h=>by cases h
 | n+1,i,p,j,h=>by
  unfold typed at h
  split at h
  ·obtain ⟨x,k,h2,h3⟩:=bW.1 h
   exact iC h3 (by decide) (.cons (rJ n _ h2) .nil)
  ·split at h
   ·obtain ⟨u,k,h2,h3⟩:=bW.1 h
    obtain ⟨x,m,h4,h5⟩:=bW.1 h3
    exact iC h5 (by decide) (.cons (rJ n _ h4) .nil)
   ·obtain ⟨s,k,h2,h3⟩:=bW.1 h
    exact iC h3 (by decide) .nil
theorem JG {n i j:Nat} {k:By} {p:Pt} (hk:k≠[]) (h:param L n k i=.ok p j):Nn p:=by
 unfold param at h
 obtain ⟨s,m,h2,h3⟩:=bW.1 h;obtain ⟨x,o,h4,h5⟩:=bW.1 h3
 exact iC h5 hk (.cons (rJ n _ h4) .nil)
theorem Fp (m:Nat):∀ (n i:Nat) (acc:List Pt) {l:List Pt} {j:Nat},params L m n i acc=.ok l j→pW acc→pW l
 | 0,_,_,_,_,h,_=>by cases h
 | n+1,i,acc,l,j,h,ha=>by
  unfold params at h
  obtain ⟨p,k,h2,h3⟩:=bW.1 h;have hp:=JG (by decide) h2
  split at h3
  ·cases h3;exact ha.snoc hp
  ·obtain ⟨u,m',h4,h5⟩:=bW.1 h3
   exact Fp m n m' _ h5 (ha.snoc hp)
theorem Fq (m:Nat):∀ (n i:Nat) (acc:List Pt) {l:List Pt} {j:Nat},fields L m n i acc=.ok l j→pW acc→pW l
 | 0,_,_,_,_,h,_=>by cases h
 | n+1,i,acc,l,j,h,ha=>by
  unfold fields at h
  split at h
  ·cases h;exact ha
  ·obtain ⟨p,k,h2,h3⟩:=bW.1 h
   have hp:=JG (by decide) h2
   split at h3
   ·cases h3
   ·exact Fq m n _ _ h3 (ha.snoc hp)
structure NnE (L:List bn) (n:Nat):Prop where
 expr:∀ than i p j,expr L n than i=.ok p j→Nn p
 exprs:∀ than f a i p j,exprs L n than f a i=.ok p j→Nn a→Nn p
 cr:∀ i p j,cr L n i=.ok p j→Nn p
 tails:∀ f a i p j,tails L n f a i=.ok p j→Nn a→Nn p
 operand:∀ i p j,operand L n i=.ok p j→Nn p
 args:∀ i acc l j,args L n i acc=.ok l j→pW acc→pW l
theorem nnE:∀ n,NnE L n
 | 0=>⟨fun _ _ _ _ h=>by simp only [expr] at h;(cases h),fun _ _ _ _ _ _ h=>by simp only [exprs] at h;(cases h),fun _ _ _ h=>by simp only [cr] at h;(cases h),fun _ _ _ _ _ h=>by simp only [tails] at h;(cases h),fun _ _ _ h=>by simp only [operand] at h;(cases h),fun _ _ _ _ h=>by simp only [args] at h;(cases h)⟩
 | n+1=>by
  have ih:=nnE n
  refine ⟨fun than i p j h=>?_,fun than f a i p j h ha=>?_,fun i p j h=>?_,fun f a i p j h ha=>?_,fun i p j h=>?_,fun i acc l j h hacc=>?_⟩
  ·rw [expr] at h
   obtain ⟨a,k,h2,h3⟩:=bW.1 h
   exact ih.exprs _ _ _ _ _ _ h3 (ih.cr _ _ _ h2)
  ·rw [exprs] at h
   split at h
   ·obtain ⟨b,k,h2,h3⟩:=bW.1 h
    exact ih.exprs _ _ _ _ _ _ h3 (Fj (by decide) (.cons ha (.cons (ih.expr _ _ _ _ h2) .nil)))
   ·cases h;exact ha
  ·rw [cr] at h
   have un:∀ x:By,((cr L n (i+1)).next fun e j=>T.part L jK x (bQ L i) [e] j)=.ok p j→Nn p:=fun x h=>by
    obtain ⟨e,k,h2,h3⟩:=bW.1 h
    exact iC h3 (by decide) (.cons (ih.cr _ _ _ h2) .nil)
   repeat' split at h
   ·exact un _ h
   ·exact un _ h
   ·exact un _ h
   ·exact un _ h
   ·obtain ⟨a,k,h2,h3⟩:=bW.1 h
    exact ih.tails _ _ _ _ _ h3 (ih.operand _ _ _ h2)
  ·rw [tails] at h
   split at h
   ·obtain ⟨s,k,h2,h3⟩:=bW.1 h
    exact ih.tails _ _ _ _ _ h3 (Fj (by decide) (.cons ha .nil))
   ·split at h
    ·obtain ⟨e,k,h2,h3⟩:=bW.1 h
     obtain ⟨u,m,h5,h6⟩:=bW.1 h3
     exact ih.tails _ _ _ _ _ h6 (Fj (by decide) (.cons ha (.cons (ih.expr _ _ _ _ h2) .nil)))
    ·cases h;exact ha
  ·rw [operand] at h
   split at h
   ·exact iC h (by decide) .nil
   ·split at h
    ·exact iC h (by decide) .nil
    ·split at h
     ·obtain ⟨e,k,h2,h3⟩:=bW.1 h
      obtain ⟨u,m,h5,h6⟩:=bW.1 h3
      cases h6
      exact ih.expr _ _ _ _ h2
     ·obtain ⟨s,k,h2,h3⟩:=bW.1 h
      split at h3
      ·exact iC h3 (by decide) .nil
      ·split at h3
       ·obtain ⟨x,m,h5,h6⟩:=bW.1 h3
        obtain ⟨u,o,h7,h8⟩:=bW.1 h6
        exact iC h8 (by decide) (.cons (rJ n _ h5) .nil)
       ·split at h3
        ·obtain ⟨x,m,h5,h6⟩:=bW.1 h3
         obtain ⟨u,o,h7,h8⟩:=bW.1 h6;obtain ⟨e,q,h9,h10⟩:=bW.1 h8;obtain ⟨u2,r,h11,h12⟩:=bW.1 h10
         exact iC h12 (by decide) (.cons (rJ n _ h5) (.cons (ih.expr _ _ _ _ h9) .nil))
        ·split at h3
         ·exact iC h3 (by decide) .nil
         ·obtain ⟨l,m,h5,h6⟩:=bW.1 h3
          exact iC h6 (by decide) (ih.args _ _ _ _ h5 .nil)
  ·rw [args] at h
   obtain ⟨a,k,h2,h3⟩:=bW.1 h;have ha:=hacc.snoc (ih.expr _ _ _ _ h2)
   split at h3
   ·cases h3;exact ha
   ·obtain ⟨u,m,h4,h5⟩:=bW.1 h3
    exact ih.args _ _ _ _ h5 ha
theorem Bg {n i j:Nat} {p:Pt} (h:iU L n i=.ok p j):Nn p:=by
 unfold iU at h
 obtain ⟨u,k,h2,h3⟩:=bW.1 h;obtain ⟨s,m,h4,h5⟩:=bW.1 h3;obtain ⟨x,o,h6,h7⟩:=bW.1 h5
 exact iC h7 (by decide) (.cons (rJ n _ h6) .nil)
structure NnS (L:List bn) (n:Nat):Prop where
 block:∀ i p j,block L n i=.ok p j→Nn p
 stmts:∀ i acc l j,stmts L n i acc=.ok l j→pW acc→pW l
 branch:∀ i p j,branch L n i=.ok p j→Nn p
 stmt:∀ i p j,stmt L n i=.ok p j→Nn p
theorem nnS:∀ n,NnS L n
 | 0=>⟨fun _ _ _ h=>by simp only [block] at h;(cases h),fun _ _ _ _ h=>by simp only [stmts] at h;(cases h),fun _ _ _ h=>by simp only [branch] at h;(cases h),fun _ _ _ h=>by simp only [stmt] at h;(cases h)⟩
 | n+1=>by
  have ih:=nnS n;have he:=nnE (L:=L) n
  refine ⟨fun i p j h=>?_,fun i acc l j h ha=>?_,fun i p j h=>?_,fun i p j h=>?_⟩
  ·rw [block] at h
   obtain ⟨u,k,h2,h3⟩:=bW.1 h;obtain ⟨l,m,h4,h5⟩:=bW.1 h3;obtain ⟨u2,o,h6,h7⟩:=bW.1 h5
   exact iC h7 (by decide) (ih.stmts _ _ _ _ h4 .nil)
  ·rw [stmts] at h
   split at h
   ·cases h;exact ha
   ·obtain ⟨p,k,h2,h3⟩:=bW.1 h
    split at h3
    ·cases h3
    ·exact ih.stmts _ _ _ _ h3 (ha.snoc (ih.stmt _ _ _ h2))
  ·rw [branch] at h
   obtain ⟨u,k,h2,h3⟩:=bW.1 h;obtain ⟨e,m,h4,h5⟩:=bW.1 h3;obtain ⟨b,o,h6,h7⟩:=bW.1 h5;have h8:=he.expr _ _ _ _ h4;have h9:=ih.block _ _ _ h6
   split at h7
   ·split at h7
    ·obtain ⟨x,q,h10,h11⟩:=bW.1 h7
     exact iC h11 (by decide) (.cons h8 (.cons h9 (.cons (ih.branch _ _ _ h10) .nil)))
    ·obtain ⟨x,q,h10,h11⟩:=bW.1 h7
     exact iC h11 (by decide) (.cons h8 (.cons h9 (.cons (ih.block _ _ _ h10) .nil)))
   ·exact iC h7 (by decide) (.cons h8 (.cons h9 .nil))
  ·rw [stmt] at h
   split at h
   ·exact Bg h
   split at h
   ·exact ih.branch _ _ _ h
   split at h
   ·exact ih.block _ _ _ h
   split at h
   ·obtain ⟨e,k,h2,h3⟩:=bW.1 h
    obtain ⟨b,m,h4,h5⟩:=bW.1 h3
    exact iC h5 (by decide) (.cons (he.expr _ _ _ _ h2) (.cons (ih.block _ _ _ h4) .nil))
   split at h
   ·split at h
    ·exact iC h (by decide) .nil
    ·obtain ⟨e,k,h2,h3⟩:=bW.1 h
     exact iC h3 (by decide) (.cons (he.expr _ _ _ _ h2) .nil)
   ·obtain ⟨a,k,h2,h3⟩:=bW.1 h
    have h6:=he.expr _ _ _ _ h2
    have two:∀ (kd:By),kd≠[]→((expr L n 0 (k+1)).next fun b m=>T.part L kd [] (bQ L i) [a,b] m)=.ok p j→Nn p:=fun kd hk h=>by
     obtain ⟨b,m,h4,h5⟩:=bW.1 h
     exact iC h5 hk (.cons h6 (.cons (he.expr _ _ _ _ h4) .nil))
    split at h3
    ·exact two _ (by decide) h3
    ·split at h3
     ·exact two _ (by decide) h3
     ·exact iC h3 (by decide) (.cons h6 .nil)
theorem RJ {k:By} {l:List Pt} (hk:k≠[]) (h:pW l):Nn (mJ k l):=by
 cases l with
 | nil=>unfold mJ;exact Fj hk h
 | cons p r=>obtain ⟨kk,t,f,e,ks⟩:=p;simp only [mJ];exact Fj hk h
theorem Cc {p:Pt} (h:pg L=.part p):Nn p:=by
 have hd:∃ n i,decl L n=.ok p i:=by
  unfold pg at h
  split at h
  ·rename_i q i h1
   split at h
   ·cases h
   ·cases h;exact ⟨_,i,h1⟩
  ·cases h
 obtain ⟨n,i,h⟩:=hd
 unfold decl at h
 split at h
 ·unfold si at h
  obtain ⟨u,k,h2,h3⟩:=bW.1 h;obtain ⟨s,m,h4,h5⟩:=bW.1 h3;obtain ⟨u2,o,h6,h7⟩:=bW.1 h5;obtain ⟨ps,q,h8,h9⟩:=bW.1 h7;obtain ⟨rs,v,h10,h11⟩:=bW.1 h9;obtain ⟨b,w,h12,h13⟩:=bW.1 h11
  have hp:pW ps:=by
   split at h8
   ·cases h8;exact .nil
   ·exact Fp n n o [] h8 .nil
  have hr:pW rs:=by
   split at h10
   ·cases h10;exact .nil
   ·obtain ⟨x,z,h14,h15⟩:=bW.1 h10
    cases h15
    exact .cons (rJ n _ h14) .nil
  exact iC h13 (by decide) (.cons (RJ (by decide) hp) (.cons (RJ (by decide) hr) (.cons ((nnS n).block _ _ _ h12) .nil)))
 ·split at h
  ·exact Bg h
  ·split at h
   ·unfold record at h
    obtain ⟨u,k,h2,h3⟩:=bW.1 h;obtain ⟨s,m,h4,h5⟩:=bW.1 h3;obtain ⟨u2,o,h6,h7⟩:=bW.1 h5;obtain ⟨u3,q,h8,h9⟩:=bW.1 h7;obtain ⟨l,v,h10,h11⟩:=bW.1 h9;obtain ⟨u4,w,h12,h13⟩:=bW.1 h11
    exact iC h13 (by decide) (Fq n n _ [] h10 .nil)
   ·cases h
end
end K
namespace K
open Go.RowKit
open Go.Lib hiding intOf
open U S T
section
variable {W:World} {R X:Nat→Prop} (hX:∀ g off k,X g→k≠[]→W.cell? ⟨g,off,none⟩≠some (.string (aX k)))
include hX
mutual
theorem yh:∀ (p:Pt) (lv:Value),Nn p→aU W R p lv→aU W (fun g=>R g∧¬ X g) p lv
 | .mk k t f e ks,lv,hn,h=>by
  unfold Nn at hn
  obtain ⟨a,cap,h1,h0,h2⟩:=h;refine ⟨a,cap,h1,h0,?_⟩
  rcases h2 with h2|⟨g,off,xs,h3,h4,h5,h6⟩
  ·exact .inl h2
  ·by_cases hk:ks=[]
   ·exact .inl hk
   ·refine .inr ⟨g,off,xs,h3,⟨h4,fun hx=>?_⟩,h5,Bh ks xs hn.2 h6⟩
    cases ks with
    | nil=>exact hk rfl
    | cons p r =>
     obtain ⟨CQ,rest,rfl,_,_⟩:=h6;obtain ⟨k',t',f',e',ks'⟩:=p;have h7:=hn.2
     unfold pW Nn at h7
     exact hX g off k' hx h7.1.1 (h5 0 _ rfl)
theorem Bh:∀ (l:List Pt) (xs:List Value),pW l→aP W R l xs→aP W (fun g=>R g∧¬ X g) l xs
 | [],_,_,h=>h
 | p :: r,xs,hn,h=>by
  have _hX:=hX
  unfold pW at hn
  obtain ⟨lv,rest,h1,h2,h3⟩:=h
  exact ⟨lv,rest,h1,yh p lv hn.1 h2,Bh r rest hn.2 h3⟩
end
end
end K
end Go.Proofs.YtojoahlpgmnbnaaGreatDoor
