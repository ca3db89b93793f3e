/- What the claim needs of the texts KSimT, KBnd, KStp, KCatch, KRun, KTodo, KMap, KWith, QPlain, KFine, KText, KNn, KLeave. -/
import Derived.Test.YtojoahlpgmnbnaaGreatDoorUFOp
import Derived.Test.YtojoahlpgmnbnaaGreatDoorUF7
import Derived.Defers
import Derived.Recover
import Derived.Laws.Pointers
import Derived.Test.YtojoahlpgmnbnaaGreatDoorUF1
namespace Go.Proofs.YtojoahlpgmnbnaaGreatDoor.K
open Go.Lib Go.Proofs.YtojoahlpgmnbnaaGreatDoor.U Go.Proofs.YtojoahlpgmnbnaaGreatDoor.S Go.Proofs.YtojoahlpgmnbnaaGreatDoor.T
section
variable {L:List TokP} (size:Nat) (hL:∀ t∈L,Fine t)
theorem all_span (k:By):∀ l:List Pt,(.mk k [] (spanF l) (spanE l) l:Pt)=allP k l
 | []=>rfl
 | .mk a b c d e :: r=>by
  unfold allP spanF spanE
  first
   | (dsimp only;done)
   | (dsimp only
      rcases (Pt.mk a b c d e :: r).getLast? with _|⟨_,_,_,_,_⟩ <;> rfl)
theorem st_finP {j:Nat} (R:List Stp) (kd:By) (f kf:Int) (ks:List Pt) (a:Open) (O:List Open) (h1:kd=kParams∨kd=kResult) (h0:0<j) :
  stepS L size ⟨j,.m .fin :: R,⟨kd,[],f,ks,kf⟩ :: a :: O⟩=.go ⟨j,R,a.add (allP kd ks) f :: O⟩:=by
 show finM L size ⟨j,R,⟨kd,[],f,ks,kf⟩ :: a :: O⟩=_
 have h2:¬ kd=kBr:=by rcases h1 with h1|h1 <;> rw [h1] <;> decide
 unfold finM
 dsimp only
 rw [if_neg (by omega)]
 simp only [closeO,Open.close,h2,h1,if_false,if_true,all_span];rfl
include hL
theorem params_sim (m:Nat):∀ (n i:Nat) (o:Open) (O:List Open) (rest:List Stp),2*(L.length - i)+1≤m→L.length - i+1≤n→i≤L.length→match params L m n i o.kids with
  | .ok l j=>j≤L.length∧i<j∧∃ kf,To L size 0 ⟨i,.m .param :: .moreC .param :: .word [41] :: rest,o :: O⟩ ⟨j,rest,{ o with kids:=l,kf:=kf } :: O⟩
  | .bad j=>Fl L size 50 ⟨i,.m .param :: .moreC .param :: .word [41] :: rest,o :: O⟩ j
 | 0,i,o,O,rest,_,hn,_=>by omega
 | n+1,i,o,O,rest,hm,hn,hi=>by
  simp only [params]
  have hp:=param_sim size hL .param kParam (fun _=>rfl) (by decide) m i hm o O (.moreC .param :: .word [41] :: rest)
  cases h1:param L m kParam i with
  | bad j=>rw [h1] at hp;exact hp.mono (by omega)
  | ok p j =>
   rw [h1] at hp
   obtain ⟨hj,hij,hr⟩:=hp
   simp only [Out.next]
   have hc:=st_moreC size hL (i:=j) .param (.word [41] :: rest) (o.add p (tf L size i) :: O)
   cases h2:isT L [41] j with
   | true =>
    have hlt:=isT_lt h2
    rw [if_pos rfl]
    rw [not_both h2 (by decide),if_neg (by decide)] at hc
    have hw:=st_word size hL (by decide) rest (o.add p (tf L size i) :: O) h2
    exact ⟨hlt,by omega,tf L size i,(hr.trans (.cons hc (.one hw) (Int.le_refl _))).mono (by dsimp only;omega)⟩
   | false =>
    rw [if_neg (by decide)]
    unfold mustT
    cases h3:isT L [44] j with
    | false =>
     rw [if_neg (by decide)]
     rw [h3,if_neg (by decide)] at hc
     exact (hr.fl (.cons hc (.now (st_word_bad size hL (by decide) _ _ h2)) (Int.le_refl _))).mono (by dsimp only;omega)
    | true =>
     have hlt:=isT_lt h3
     rw [if_pos rfl]
     rw [h3,if_pos rfl] at hc
     simp only
     have hw:=st_word size hL (by decide) (.m .param :: .moreC .param :: .word [41] :: rest) (o.add p (tf L size i) :: O) h3
     have hq:=params_sim m n (j+1) (o.add p (tf L size i)) O rest (by omega) (by omega) hlt
     rw [show (o.add p (tf L size i)).kids=o.kids++[p] from rfl] at hq
     cases h4:params L m n (j+1) (o.kids++[p]) with
     | bad k=>rw [h4] at hq;exact (hr.fl (.cons hc (.cons hw hq (Int.le_refl _)) (Int.le_refl _))).mono (by dsimp only;omega)
     | ok l k =>
      rw [h4] at hq
      obtain ⟨q1,q2,kf,q3⟩:=hq
      exact ⟨q1,by omega,kf,(hr.trans (.cons hc (.cons hw q3 (Int.le_refl _)) (Int.le_refl _))).mono (by dsimp only;omega)⟩
theorem fields_sim (m:Nat):∀ (n i:Nat) (o:Open) (O:List Open) (rest:List Stp),2*(L.length - i)+1≤m→L.length - i+2≤n→i≤L.length→isT L [125] i=false→match fields L m n i o.kids with
  | .ok l j=>j≤L.length∧i<j∧isT L [125] j=true∧∃ kf,To L size 0 ⟨i,.m .field :: .more .field :: .word [125] :: rest,o :: O⟩ ⟨j,.word [125] :: rest,{ o with kids:=l,kf:=kf } :: O⟩
  | .bad j=>Fl L size 50 ⟨i,.m .field :: .more .field :: .word [125] :: rest,o :: O⟩ j
 | 0,i,o,O,rest,_,hn,_,_=>by omega
 | n+1,i,o,O,rest,hm,hn,hi,hb=>by
  simp only [fields,hb,Bool.false_eq_true,if_false]
  have hp:=param_sim size hL .field kField (fun _=>rfl) (by decide) m i hm o O (.more .field :: .word [125] :: rest)
  cases h1:param L m kField i with
  | bad j=>rw [h1] at hp;exact hp.mono (by omega)
  | ok p j =>
   rw [h1] at hp
   obtain ⟨hj,hij,hr⟩:=hp
   simp only [Out.next]
   have hle:=semi_le j hj
   rcases more_or size hL (j:=j) .field rest (o.add p (tf L size i) :: O) with ⟨q1,q2⟩|⟨q1,q0,q2⟩|⟨q1,q0,q2⟩
   ·have hs:¬ (semiN L j=0∧isT L [125] j=false):=by
     rintro ⟨a,b⟩;rw [a,Nat.add_zero,b] at q1;cases q1
    rw [if_neg hs]
    obtain ⟨m',hm'⟩:∃ m,n=m+1:=⟨n - 1,by omega⟩
    rw [hm']
    simp only [fields,q1,if_true]
    exact ⟨hle,by omega,trivial,tf L size i,(hr.trans q2).mono (by omega)⟩
   ·rw [q0,Nat.add_zero] at q1
    rw [if_pos ⟨q0,q1⟩]
    exact (hr.fl q2).mono (by omega)
   ·rw [if_neg (by omega)]
    have hk:=fields_sim m n (j+semiN L j) (o.add p (tf L size i)) O rest (by omega) (by omega) hle q1
    rw [show (o.add p (tf L size i)).kids=o.kids++[p] from rfl] at hk
    cases h2:fields L m n (j+semiN L j) (o.kids++[p]) with
    | bad k=>rw [h2] at hk;exact (hr.fl (q2.fl hk)).mono (by omega)
    | ok l k =>
     rw [h2] at hk
     obtain ⟨r1,r2,r3,kf,r4⟩:=hk
     exact ⟨r1,by omega,r3,kf,(hr.trans (q2.trans r4)).mono (by omega)⟩
theorem record_sim (n i:Nat) (hn:8*L.length+10≤n) (h1:isT L kType i=true) (T:Open) (O:List Open) (rest:List Stp):match record L n i with
  | .ok p j=>j≤L.length∧i<j∧To L size (-50) ⟨i,.word kType :: .m .name :: .word kStruct :: .word [123] :: .lines .field :: .word [125] :: .m .fin :: rest,⟨kType,[],tf L size i,[],0⟩ :: T :: O⟩ ⟨j,rest,T.add p (tf L size i) :: O⟩
  | .bad j=>Fl L size 60 ⟨i,.word kType :: .m .name :: .word kStruct :: .word [123] :: .lines .field :: .word [125] :: .m .fin :: rest,⟨kType,[],tf L size i,[],0⟩ :: T :: O⟩ j:=by
 have hlt:=isT_lt h1
 unfold record mustT
 rw [h1,if_pos rfl]
 simp only [Out.next]
 have hw:=st_word size hL (by decide) (.m .name :: .word kStruct :: .word [123] :: .lines .field :: .word [125] :: .m .fin :: rest) (⟨kType,[],tf L size i,[],0⟩ :: T :: O) h1
 unfold nameT
 cases h2:comesT L 0 (i+1) with
 | false =>
  rw [if_neg (by decide)]
  exact .cons hw (.now (st_name_bad size hL _ _ h2)) (by dsimp only;omega)
 | true =>
 have hlt2:=comesT_lt h2
 rw [if_pos rfl]
 simp only
 have hm:=st_name size hL (.word kStruct :: .word [123] :: .lines .field :: .word [125] :: .m .fin :: rest) ⟨kType,[],tf L size i,[],0⟩ (T :: O) h2
 cases h3:isT L kStruct (i+1+1) with
 | false =>
  rw [if_neg (by decide)]
  exact .cons hw (.cons hm (.now (st_word_bad size hL (by decide) _ _ h3)) (Int.le_refl _)) (by dsimp only;omega)
 | true =>
 have hlt3:=isT_lt h3
 rw [if_pos rfl]
 simp only
 have hw3:=st_word size hL (by decide) (.word [123] :: .lines .field :: .word [125] :: .m .fin :: rest) (⟨kType,textT L (i+1),tf L size i,[],0⟩ :: T :: O) h3
 cases h4:isT L [123] (i+1+1+1) with
 | false =>
  rw [if_neg (by decide)]
  exact .cons hw (.cons hm (.cons hw3 (.now (st_word_bad size hL (by decide) _ _ h4)) (Int.le_refl _)) (Int.le_refl _)) (by dsimp only;omega)
 | true =>
 have hlt4:=isT_lt h4
 rw [if_pos rfl]
 simp only
 have hw4:=st_word size hL (by decide) (.lines .field :: .word [125] :: .m .fin :: rest) (⟨kType,textT L (i+1),tf L size i,[],0⟩ :: T :: O) h4
 obtain ⟨u,hu⟩:∃ u,i+1+1+1+1=u:=⟨_,rfl⟩
 rw [hu] at hw4 ⊢
 have hl:=st_lines size hL (i:=u) .field (.word [125] :: .m .fin :: rest) (⟨kType,textT L (i+1),tf L size i,[],0⟩ :: T :: O)
 have hle:u+semiN L u≤L.length:=semi_le u (by omega)
 obtain ⟨m,hm'⟩:∃ m,n=m+1:=⟨n - 1,by omega⟩
 cases h5:isT L [125] (u+semiN L u) with
 | true =>
  have hlt5:=isT_lt h5
  rw [h5,if_pos rfl] at hl
  rw [show fields L n n (u+semiN L u) []=.ok [] (u+semiN L u) by rw [hm'];simp only [fields,h5,if_true]]
  simp only
  rw [h5,if_pos rfl]
  have hw5:=st_word size hL (by decide) (.m .fin :: rest) (⟨kType,textT L (i+1),tf L size i,[],0⟩ :: T :: O) h5
  have hf:=st_fin size rest kType (textT L (i+1)) (tf L size i) 0 [] T O (by decide) (Nat.succ_pos _) hlt5
  refine ⟨hlt5,by omega,?_⟩
  rw [tf_from hlt] at hw hm hw3 hw4 hl hw5 hf ⊢
  exact .cons hw (.cons hm (.cons hw3 (.cons hw4 (.cons hl (.cons hw5 (.one hf) (Int.le_refl _)) (Int.le_refl _)) (Int.le_refl _)) (Int.le_refl _)) (Int.le_refl _)) (by dsimp only;omega)
 | false =>
  rw [h5,if_neg (by decide)] at hl
  have hk:=fields_sim size hL n n (u+semiN L u) ⟨kType,textT L (i+1),tf L size i,[],0⟩ (T :: O) (.m .fin :: rest) (by omega) (by omega) hle h5
  dsimp only at hk
  cases h6:fields L n n (u+semiN L u) [] with
  | bad k=>rw [h6] at hk;exact .cons hw (.cons hm (.cons hw3 (.cons hw4 (.cons hl hk (Int.le_refl _)) (Int.le_refl _)) (Int.le_refl _)) (Int.le_refl _)) (by dsimp only;omega)
  | ok l k =>
   rw [h6] at hk
   obtain ⟨r1,r2,r3,kf,r4⟩:=hk
   have hlt6:=isT_lt r3
   simp only
   rw [r3,if_pos rfl]
   have hw5:=st_word size hL (by decide) (.m .fin :: rest) (⟨kType,textT L (i+1),tf L size i,l,kf⟩ :: T :: O) r3
   have hf:=st_fin size rest kType (textT L (i+1)) (tf L size i) kf l T O (by decide) (Nat.succ_pos _) hlt6
   refine ⟨hlt6,by omega,?_⟩
   rw [tf_from hlt] at hw hm hw3 hw4 hl r4 hw5 hf ⊢
   exact .cons hw (.cons hm (.cons hw3 (.cons hw4 (.cons hl (r4.trans (.cons hw5 (.one hf) (Int.le_refl _))) (Int.le_refl _)) (Int.le_refl _)) (Int.le_refl _)) (Int.le_refl _)) (by dsimp only;omega)
theorem st_result {i:Nat} (R:List Stp) (a:Open) (O:List Open) (h0:0<i):stepS L size ⟨i,.m .result :: R,a :: O⟩ =
  if isT L [123] i then .go ⟨i,R,a.add (.mk kResult [] 0 0 []) (tf L size i) :: O⟩ else .go ⟨i,.m .typeOf :: .m .fin :: R,⟨kResult,[],tf L size i,[],0⟩ :: a :: O⟩:=by
 show execM L size .result ⟨i,R,a :: O⟩=_
 simp only [execM]
 rw [isP_is size hL (by decide),if_neg (show ¬ i=0 by omega)];rfl
theorem result_sim (n i:Nat) (hn:2*L.length+1≤n) (h0:0<i) (hi:i≤L.length) (T:Open) (O:List Open) (rest:List Stp):match (if isT L [123] i then Out.ok [] i else (typed L n i).next fun x q=>.ok [x] q:Out (List Pt)) with
  | .ok rs j=>j≤L.length∧i≤j∧To L size 2 ⟨i,.m .result :: rest,T :: O⟩ ⟨j,rest,T.add (allP kResult rs) (tf L size i) :: O⟩
  | .bad j=>Fl L size 20 ⟨i,.m .result :: rest,T :: O⟩ j:=by
 have hr:=st_result size hL (i:=i) rest T O h0
 cases h1:isT L [123] i with
 | true =>
  rw [h1,if_pos rfl] at hr
  rw [if_pos rfl]
  exact ⟨hi,Nat.le_refl _,.last hr (by dsimp only;omega)⟩
 | false =>
  rw [h1,if_neg (by decide)] at hr
  rw [if_neg (by decide)]
  have hp:=typed_sim size hL n i (by omega) hi ⟨kResult,[],tf L size i,[],0⟩ (T :: O) (.m .fin :: rest)
  cases h2:typed L n i with
  | bad j=>rw [h2] at hp;exact .cons hr hp (by dsimp only;omega)
  | ok x j =>
   rw [h2] at hp
   obtain ⟨hj,hij,hx⟩:=hp
   have hf:=st_finP (L:=L) size rest kResult (tf L size i) (tf L size i) [x] T O (.inr rfl) (by omega:0<j)
   exact ⟨hj,by omega,.cons hr (hx.trans (.one hf)) (by dsimp only;omega)⟩
theorem func_sim (n i:Nat) (hn:8*L.length+10≤n) (h1:isT L kFunc i=true) (T:Open) (O:List Open) (rest:List Stp):match func' L n i with
  | .ok p j=>j≤L.length∧i<j∧To L size (-50) ⟨i,.word kFunc :: .m .name :: .m .params :: .m .result :: .m .block :: .m .fin :: rest,⟨kFunc,[],tf L size i,[],0⟩ :: T :: O⟩ ⟨j,rest,T.add p (tf L size i) :: O⟩
  | .bad j=>Fl L size 60 ⟨i,.word kFunc :: .m .name :: .m .params :: .m .result :: .m .block :: .m .fin :: rest,⟨kFunc,[],tf L size i,[],0⟩ :: T :: O⟩ j:=by
 have hlt:=isT_lt h1
 unfold func' mustT
 rw [h1,if_pos rfl]
 simp only [Out.next]
 have hw:=st_word size hL (by decide) (.m .name :: .m .params :: .m .result :: .m .block :: .m .fin :: rest) (⟨kFunc,[],tf L size i,[],0⟩ :: T :: O) h1
 unfold nameT
 cases h2:comesT L 0 (i+1) with
 | false =>
  rw [if_neg (by decide)]
  exact .cons hw (.now (st_name_bad size hL _ _ h2)) (by dsimp only;omega)
 | true =>
 have hlt2:=comesT_lt h2
 rw [if_pos rfl]
 simp only
 have hm:=st_name size hL (.m .params :: .m .result :: .m .block :: .m .fin :: rest) ⟨kFunc,[],tf L size i,[],0⟩ (T :: O) h2
 have ho:=st_opened size hL (k:=.params) (kd:=kParams) (l:=[.word [40],.commas .param,.word [41],.m .fin]) (fun s=>rfl) (i:=i+1+1) (.m .result :: .m .block :: .m .fin :: rest) (⟨kFunc,textT L (i+1),tf L size i,[],0⟩ :: T :: O)
 cases h3:isT L [40] (i+1+1) with
 | false =>
  rw [if_neg (by decide)]
  exact .cons hw (.cons hm (.cons ho (.now (st_word_bad size hL (by decide) _ _ h3)) (Int.le_refl _)) (Int.le_refl _)) (by dsimp only;omega)
 | true =>
 have hlt3:=isT_lt h3
 rw [if_pos rfl]
 simp only
 have hw3:=st_word size hL (by decide) (.commas .param :: .word [41] :: .m .fin :: .m .result :: .m .block :: .m .fin :: rest) (⟨kParams,[],tf L size (i+1+1),[],0⟩ :: ⟨kFunc,textT L (i+1),tf L size i,[],0⟩ :: T :: O) h3
 obtain ⟨u,hu⟩:∃ u,i+1+1+1=u:=⟨_,rfl⟩
 rw [hu] at hw3 ⊢
 have hc:=st_commas size hL (i:=u) .param (.word [41] :: .m .fin :: .m .result :: .m .block :: .m .fin :: rest) (⟨kParams,[],tf L size (i+1+1),[],0⟩ :: ⟨kFunc,textT L (i+1),tf L size i,[],0⟩ :: T :: O)
 have hps:match (if isT L [41] u then Out.ok [] (u+1) else params L n n u []:Out (List Pt)) with
   | .ok ps j=>j≤L.length∧u<j∧To L size 2 ⟨u,.commas .param :: .word [41] :: .m .fin :: .m .result :: .m .block :: .m .fin :: rest,⟨kParams,[],tf L size (i+1+1),[],0⟩ :: ⟨kFunc,textT L (i+1),tf L size i,[],0⟩ :: T :: O⟩ ⟨j,.m .result :: .m .block :: .m .fin :: rest,⟨kFunc,textT L (i+1),tf L size i,[allP kParams ps],tf L size (i+1+1)⟩ :: T :: O⟩
   | .bad j=>Fl L size 51 ⟨u,.commas .param :: .word [41] :: .m .fin :: .m .result :: .m .block :: .m .fin :: rest,⟨kParams,[],tf L size (i+1+1),[],0⟩ :: ⟨kFunc,textT L (i+1),tf L size i,[],0⟩ :: T :: O⟩ j:=by
  cases h4:isT L [41] u with
  | true =>
   have hlt4:=isT_lt h4
   rw [h4,if_pos rfl] at hc
   rw [if_pos rfl]
   have hw4:=st_word size hL (by decide) (.m .fin :: .m .result :: .m .block :: .m .fin :: rest) (⟨kParams,[],tf L size (i+1+1),[],0⟩ :: ⟨kFunc,textT L (i+1),tf L size i,[],0⟩ :: T :: O) h4
   have hf:=st_finP (L:=L) size (.m .result :: .m .block :: .m .fin :: rest) kParams (tf L size (i+1+1)) 0 [] ⟨kFunc,textT L (i+1),tf L size i,[],0⟩ (T :: O) (.inl rfl) (Nat.succ_pos u)
   exact ⟨hlt4,by omega,.cons hc (.cons hw4 (.one hf) (Int.le_refl _)) (by dsimp only;omega)⟩
  | false =>
   rw [h4,if_neg (by decide)] at hc
   rw [if_neg (by decide)]
   have hk:=params_sim size hL n n u ⟨kParams,[],tf L size (i+1+1),[],0⟩ (⟨kFunc,textT L (i+1),tf L size i,[],0⟩ :: T :: O) (.m .fin :: .m .result :: .m .block :: .m .fin :: rest) (by omega) (by omega) (by omega)
   dsimp only at hk
   cases h5:params L n n u [] with
   | bad j=>rw [h5] at hk;exact .cons hc hk (by dsimp only;omega)
   | ok ps j =>
    rw [h5] at hk
    obtain ⟨q1,q2,kf,q3⟩:=hk
    have hf:=st_finP (L:=L) size (.m .result :: .m .block :: .m .fin :: rest) kParams (tf L size (i+1+1)) kf ps ⟨kFunc,textT L (i+1),tf L size i,[],0⟩ (T :: O) (.inl rfl) (by omega:0<j)
    exact ⟨q1,by omega,.cons hc (q3.trans (.one hf)) (by dsimp only;omega)⟩
 cases h4:(if isT L [41] u then Out.ok [] (u+1) else params L n n u []:Out (List Pt)) with
 | bad j=>rw [h4] at hps;exact .cons hw (.cons hm (.cons ho (.cons hw3 hps (Int.le_refl _)) (Int.le_refl _)) (Int.le_refl _)) (by dsimp only;omega)
 | ok ps o =>
  rw [h4] at hps
  obtain ⟨p1,p2,p3⟩:=hps
  simp only
  have hrs:=result_sim size hL n o (by omega) (by omega) p1 ⟨kFunc,textT L (i+1),tf L size i,[allP kParams ps],tf L size (i+1+1)⟩ (T :: O) (.m .block :: .m .fin :: rest)
  have fin:∀ (rs:List Pt) (q:Nat),q≤L.length→o≤q→To L size 2 ⟨o,.m .result :: .m .block :: .m .fin :: rest,⟨kFunc,textT L (i+1),tf L size i,[allP kParams ps],tf L size (i+1+1)⟩ :: T :: O⟩ ⟨q,.m .block :: .m .fin :: rest,Open.add ⟨kFunc,textT L (i+1),tf L size i,[allP kParams ps],tf L size (i+1+1)⟩ (allP kResult rs) (tf L size o) :: T :: O⟩ →
    match (block L n q).next fun b r=>Go.Proofs.YtojoahlpgmnbnaaGreatDoor.T.part L kFunc (textT L (i+1)) (fromT L i) [allP kParams ps,allP kResult rs,b] r with
    | .ok p j=>j≤L.length∧i<j∧To L size (-50) ⟨i,.word kFunc :: .m .name :: .m .params :: .m .result :: .m .block :: .m .fin :: rest,⟨kFunc,[],tf L size i,[],0⟩ :: T :: O⟩ ⟨j,rest,T.add p (tf L size i) :: O⟩
    | .bad j=>Fl L size 60 ⟨i,.word kFunc :: .m .name :: .m .params :: .m .result :: .m .block :: .m .fin :: rest,⟨kFunc,[],tf L size i,[],0⟩ :: T :: O⟩ j:=by
   intro rs q r1 r2 r3
   have hb:=(goodS size hL n).block q (by omega) r1 (Open.add ⟨kFunc,textT L (i+1),tf L size i,[allP kParams ps],tf L size (i+1+1)⟩ (allP kResult rs) (tf L size o)) (T :: O) (.m .fin :: rest)
   cases h6:block L n q with
   | bad j=>rw [h6] at hb;exact .cons hw (.cons hm (.cons ho (.cons hw3 (p3.fl (r3.fl hb)) (Int.le_refl _)) (Int.le_refl _)) (Int.le_refl _)) (by dsimp only;omega)
   | ok b j =>
    rw [h6] at hb
    obtain ⟨b1,b2,b3⟩:=hb
    have hf:=st_fin size rest kFunc (textT L (i+1)) (tf L size i) (tf L size q) [allP kParams ps,allP kResult rs,b] T O (by decide) (by omega) b1
    refine ⟨b1,by omega,?_⟩
    rw [tf_from hlt] at hw hm ho hw3 p3 r3 b3 hf ⊢
    exact .cons hw (.cons hm (.cons ho (.cons hw3 (p3.trans (r3.trans (b3.trans (.one hf)))) (Int.le_refl _)) (Int.le_refl _)) (Int.le_refl _)) (by dsimp only;omega)
  cases h5:isT L [123] o with
  | true =>
   rw [h5,if_pos rfl] at hrs
   rw [if_pos rfl]
   exact fin [] o hrs.1 hrs.2.1 hrs.2.2
  | false =>
   rw [h5,if_neg (by decide)] at hrs
   rw [if_neg (by decide)]
   cases h6:typed L n o with
   | bad j=>rw [h6] at hrs;exact .cons hw (.cons hm (.cons ho (.cons hw3 (p3.fl hrs) (Int.le_refl _)) (Int.le_refl _)) (Int.le_refl _)) (by dsimp only;omega)
   | ok x q=>rw [h6] at hrs;exact fin [x] q hrs.1 hrs.2.1 hrs.2.2
theorem st_decl {i:Nat} (R:List Stp) (O:List Open):stepS L size ⟨i,.m .decl :: R,O⟩ =
  if isT L kFunc i then .go ⟨i,.word kFunc :: .m .name :: .m .params :: .m .result :: .m .block :: .m .fin :: R,⟨kFunc,[],tf L size i,[],0⟩ :: O⟩
  else if isT L kVar i then .go ⟨i,.word kVar :: .m .name :: .m .typeOf :: .m .fin :: R,⟨kVar,[],tf L size i,[],0⟩ :: O⟩
  else if isT L kType i then .go ⟨i,.word kType :: .m .name :: .word kStruct :: .word [123] :: .lines .field :: .word [125] :: .m .fin :: R,⟨kType,[],tf L size i,[],0⟩ :: O⟩
  else .wrong:=by
 show execM L size .decl ⟨i,R,O⟩=_
 simp only [execM]
 rw [isP_is size hL (by decide),isP_is size hL (by decide),isP_is size hL (by decide)];rfl
theorem decl_sim (n:Nat) (hn:8*L.length+10≤n) (T:Open) (O:List Open) (rest:List Stp):match decl L n with
  | .ok p j=>j≤L.length∧0<j∧To L size 0 ⟨0,.m .decl :: rest,T :: O⟩ ⟨j,rest,T.add p (tf L size 0) :: O⟩
  | .bad j=>Fl L size 70 ⟨0,.m .decl :: rest,T :: O⟩ j:=by
 have h0:=st_decl size hL (i:=0) rest (T :: O)
 unfold decl
 by_cases h1:isT L kFunc 0=true
 ·rw [if_pos h1]
  rw [h1,if_pos rfl] at h0
  have hf:=func_sim size hL n 0 hn h1 T O rest
  cases h2:func' L n 0 with
  | bad j=>rw [h2] at hf;exact .cons h0 hf (by dsimp only;omega)
  | ok p j=>rw [h2] at hf;exact ⟨hf.1,hf.2.1,.cons h0 hf.2.2 (by dsimp only;omega)⟩
 rw [if_neg h1]
 have h1f:isT L kFunc 0=false:=by simpa using h1
 by_cases h2:isT L kVar 0=true
 ·rw [if_pos h2]
  have hv:=variable_sim size hL .decl (fun i R O h=>by rw [st_decl size hL,h,not_both h (by decide),if_neg (by decide),if_pos rfl]) n 0 (by omega) h2 T O rest
  cases h3:variable' L n 0 with
  | bad j=>rw [h3] at hv;exact hv.mono (by omega)
  | ok p j=>rw [h3] at hv;exact ⟨hv.1,hv.2.1,hv.2.2.mono (by omega)⟩
 rw [if_neg h2]
 have h2f:isT L kVar 0=false:=by simpa using h2
 by_cases h3:isT L kType 0=true
 ·rw [if_pos h3]
  rw [h1f,if_neg (by decide),h2f,if_neg (by decide),h3,if_pos rfl] at h0
  have hf:=record_sim size hL n 0 hn h3 T O rest
  cases h4:record L n 0 with
  | bad j=>rw [h4] at hf;exact .cons h0 hf (by dsimp only;omega)
  | ok p j=>rw [h4] at hf;exact ⟨hf.1,hf.2.1,.cons h0 hf.2.2 (by dsimp only;omega)⟩
 rw [if_neg h3]
 have h3f:isT L kType 0=false:=by simpa using h3
 rw [h1f,if_neg (by decide),h2f,if_neg (by decide),h3f,if_neg (by decide)] at h0
 exact (Fl.now h0).mono (by omega)
def root:Open:=⟨[],[],0,[],0⟩
def begun:St:=⟨0,[.m .decl,.m .semis,.m .noMore],[root]⟩
omit hL in
def Okay (L:List TokP) (s:St):Prop:=s.i≤L.length∧∀ x,.word x∈s.todo→x∈special
omit hL in
theorem okay_push {i j:Nat} {todo l:List Stp} {O O':List Open} (h:Okay L ⟨i,todo,O⟩) (hj:j≤L.length) (hl:∀ x,.word x∈l→x∈special):Okay L ⟨j,l++todo,O'⟩:=by
 refine ⟨hj,fun x hx=>?_⟩
 rcases List.mem_append.1 hx with hx|hx
 ·exact hl x hx
 ·exact h.2 x hx
omit hL in
theorem okay_opt {i j:Nat} {todo l:List Stp} {O:List Open} {o:Option (List Open)} {s:St} (h:Okay L ⟨i,todo,O⟩) (hj:j≤L.length) (hl:∀ x,.word x∈l→x∈special) (hs:ofOpt j (l++todo) o=.go s):Okay L s:=by
 cases o with
 | none=>cases hs
 | some O'=>cases hs;exact okay_push h hj hl
theorem okay_step {s s1:St} (h:Okay L s) (hs:stepS L size s=.go s1):Okay L s1:=by
 obtain ⟨i,todo,O⟩:=s
 cases todo with
 | nil=>cases hs
 | cons x R =>
  have hi:i≤L.length:=h.1
  have h0:Okay L ⟨i,R,O⟩:=⟨hi,fun x hx=>h.2 x (List.mem_cons_of_mem _ hx)⟩
  have hle:=semi_le i hi
  have hsp:∀ {l:List By},(∀ y∈l,y∈special)→∀ {y:By},y∈l→y∈special:=fun h _ hy=>h _ hy
  have hs:exec L size x ⟨i,R,O⟩=.go s1:=hs
  cases x with
  | word x =>
   have hx:=h.2 x List.mem_cons_self
   simp only [exec] at hs
   rw [isP_is size hL hx] at hs
   split at hs
   ·rename_i h1;cases hs;exact okay_push (l:=[]) h0 (isT_lt h1) (by simp)
   ·cases hs
  | lines k =>
   simp only [exec] at hs
   split at hs
   ·cases hs;exact okay_push (l:=[]) h0 hle (by simp)
   ·cases hs;exact okay_push (l:=[.m k,.more k]) h0 hle (by simp)
  | more k =>
   simp only [exec] at hs
   split at hs
   ·cases hs;exact okay_push h0 hi (by simp)
   ·cases hs;exact h0
  | commas k =>
   simp only [exec] at hs
   split at hs
   ·cases hs;exact h0
   ·cases hs;exact okay_push h0 hi (by simp)
  | moreC k =>
   simp only [exec] at hs
   split at hs
   ·cases hs;exact okay_push h0 hi (by simp;decide)
   ·cases hs;exact h0
  | m k =>
   have hs:execM L size k ⟨i,R,O⟩=.go s1:=hs
   have hop:∀ {kd:By} {l:List Stp},(∀ x,.word x∈l→x∈special)→opened L size kd ⟨i,R,O⟩ l=.go s1→Okay L s1:=fun hl h=>by cases h;exact okay_push h0 hi hl
   have hpu:∀ {l:List Stp},(∀ x,.word x∈l→x∈special)→pushed ⟨i,R,O⟩ l=.go s1→Okay L s1:=fun hl h=>by cases h;exact okay_push h0 hi hl
   have hvar:varDecl L size ⟨i,R,O⟩=.go s1→Okay L s1:=hop (by simp;decide)
   have hif:ifStmt L size ⟨i,R,O⟩=.go s1→Okay L s1:=hop (by simp;decide)
   have hbl:blockM L size ⟨i,R,O⟩=.go s1→Okay L s1:=hop (by simp;decide)
   have hex:exprM ⟨i,R,O⟩=.go s1→Okay L s1:=hpu (by simp)
   cases k with
   | decl=>simp only [execM] at hs;repeat' split at hs
           ·exact hop (by simp;decide) hs
           ·exact hvar hs
           ·exact hop (by simp;decide) hs
           ·cases hs
   | semis=>cases hs;exact okay_push (l:=[]) h0 hle (by simp)
   | noMore=>simp only [execM] at hs;split at hs;cases hs;exact h0;cases hs
   | name =>
    simp only [execM] at hs
    rw [isW_is size hL (by decide)] at hs
    split at hs
    ·rename_i h1;exact okay_opt (l:=[]) h0 (comesT_lt h1) (by simp) hs
    ·cases hs
   | params=>exact hop (by simp;decide) hs
   | result =>
    simp only [execM] at hs;repeat' split at hs
    ·cases hs
    ·cases hs;exact okay_push (l:=[]) h0 hi (by simp)
    ·cases hs;exact okay_push (l:=[]) h0 hi (by simp)
    ·exact hop (by simp) hs
   | block=>exact hbl hs
   | fin =>
    simp only [execM,finM] at hs
    split at hs
    ·cases hs
    ·exact okay_opt (l:=[]) h0 hi (by simp) hs
   | field=>exact hop (by simp) hs
   | param=>exact hop (by simp) hs
   | typeOf =>
    simp only [execM] at hs;repeat' split at hs
    ·exact hop (by simp;decide) hs
    ·exact hop (by simp;decide) hs
    ·exact hop (by simp) hs
   | stmt =>
    simp only [execM] at hs;repeat' split at hs
    ·exact hvar hs
    ·exact hop (by simp;decide) hs
    ·exact hif hs
    ·exact hop (by simp;decide) hs
    ·exact hbl hs
    ·exact hop (by simp) hs
   | returned =>
    simp only [execM] at hs;split at hs
    ·exact hex hs
    ·cases hs;exact h0
   | expr=>exact hex hs
   | assigned =>
    simp only [execM] at hs
    rw [isP_is size hL (by decide),isP_is size hL (by decide)] at hs
    repeat' split at hs
    ·rename_i h1;exact okay_opt (l:=[.m .pre,.m .between]) h0 (isT_lt h1) (by simp) hs
    ·rename_i h1;exact okay_opt (l:=[.m .pre,.m .between]) h0 (isT_lt h1) (by simp) hs
    ·cases hs;exact h0
   | otherwise =>
    simp only [execM] at hs;split at hs
    ·exact hpu (by simp;decide) hs
    ·cases hs;exact h0
   | pre =>
    simp only [execM] at hs;split at hs
    ·exact hop (by simp) hs
    ·exact hpu (by simp) hs
   | between =>
    simp only [execM,betweenM] at hs
    repeat' split at hs
    ·cases hs
    ·cases hs
    ·exact okay_opt (l:=[.m .text,.m .pre,.m .between]) h0 hi (by simp) hs
    ·cases hs;exact okay_push (l:=[]) h0 hi (by simp)
   | ifOrBlock =>
    simp only [execM] at hs;split at hs
    ·exact hif hs
    ·exact hbl hs
   | text =>
    simp only [execM] at hs
    split at hs
    ·rename_i h1;exact okay_opt (l:=[]) h0 h1 (by simp) hs
    ·cases hs
   | behind =>
    simp only [execM] at hs;repeat' split at hs
    ·exact okay_opt (l:=[.word [46],.m .name,.m .fin,.m .behind]) h0 hi (by simp;decide) hs
    ·exact okay_opt (l:=[.word [91],.m .expr,.word [93],.m .fin,.m .behind]) h0 hi (by simp;decide) hs
    ·cases hs;exact h0
   | operand =>
    simp only [execM] at hs;repeat' split at hs
    ·exact hop (by simp) hs
    ·exact hop (by simp) hs
    ·exact hop (by simp) hs
    ·exact hop (by simp;decide) hs
   | called =>
    simp only [execM] at hs
    rw [isP_is size hL (by decide)] at hs
    split at hs
    ·rename_i h1
     have hlt:=isT_lt h1
     split at hs
     ·cases hs
     ·repeat' split at hs
      ·cases hs;exact okay_push (l:=[.m .typeOf,.word [41]]) h0 hlt (by simp;decide)
      ·cases hs;exact okay_push (l:=[.m .typeOf,.word [44],.m .expr,.word [41]]) h0 hlt (by simp;decide)
      ·cases hs;exact okay_push (l:=[.commas .expr,.word [41]]) h0 hlt (by simp;decide)
    ·cases hs;exact h0
theorem okay_goes {n:Nat} {s s1:St} (h:Goes L size n s s1) (h0:Okay L s):Okay L s1:=by
 induction h with
 | refl n s=>exact h0
 | step h1 _ ih=>exact ih (okay_step size hL h0 h1)
omit hL in
theorem okay_begun:Okay L begun:=⟨Nat.zero_le _,by simp [begun]⟩
theorem run_sim (n:Nat) (hn:8*L.length+10≤n):match decl L n with
  | .ok p i=>if i+semiN L i<L.length then Falls L size (100*L.length+100) begun (i+semiN L i)
    else i+semiN L i=L.length∧∃ f,Goes L size (100*L.length+100) begun ⟨L.length,[],[root.add p f]⟩
  | .bad i=>Falls L size (100*L.length+100) begun i:=by
 have hd:=decl_sim size hL n hn root [] [.m .semis,.m .noMore]
 have falls:∀ {j:Nat} {c:Int},Fl L size c begun j→c≤80→j≤L.length→Falls L size (100*L.length+100) begun j:=by
  rintro j c ⟨m,h1,s',h2,h3⟩ hc hj
  have h4:(begun.i:Int)=0:=rfl
  exact ⟨s',h2.mono (by omega),h3⟩
 cases h1:decl L n with
 | bad j =>
  rw [h1] at hd
  obtain ⟨m,g1,s',g2,g3,g4⟩:=hd
  have h4:((⟨0,[.m .decl,.m .semis,.m .noMore],[root]⟩:St).i:Int)=0:=rfl
  have hj:j≤L.length:=by rw [← g4];exact (okay_goes size hL g2 okay_begun).1
  exact falls (c:=70) ⟨m,g1,s',g2,g3,g4⟩ (by omega) hj
 | ok p i =>
  rw [h1] at hd
  obtain ⟨hj,hij,ht⟩:=hd
  have hle:=semi_le i hj
  have hs:stepS L size ⟨i,[.m .semis,.m .noMore],root.add p (tf L size 0) :: []⟩=.go ⟨i+semiN L i,[.m .noMore],[root.add p (tf L size 0)]⟩:=rfl
  have hm:stepS L size ⟨i+semiN L i,[.m .noMore],[root.add p (tf L size 0)]⟩=if decide (L.length≤i+semiN L i) then .go ⟨i+semiN L i,[],[root.add p (tf L size 0)]⟩ else .wrong:=by
   show execM L size .noMore ⟨i+semiN L i,[],[root.add p (tf L size 0)]⟩=_
   simp only [execM]
   rw [isW_end size hL]
  simp only
  by_cases h2:i+semiN L i<L.length
  ·rw [if_pos h2]
   rw [decide_eq_false (by omega),if_neg (by decide)] at hm
   exact falls (c:=1) ((ht.fl (.cons hs (.now hm) (Int.le_refl _))).mono (by dsimp only;omega)) (by omega) (by omega)
  ·rw [if_neg h2]
   have he:i+semiN L i=L.length:=by omega
   rw [decide_eq_true (by omega),if_pos rfl,he] at hm
   rw [he] at hs
   refine ⟨he,tf L size 0,?_⟩
   obtain ⟨m,g1,g2⟩:=(ht.trans (.cons hs (.one hm) (Int.le_refl _)):To L size _ _ _)
   dsimp only at g1
   exact g2.mono (by omega)
end
end Go.Proofs.YtojoahlpgmnbnaaGreatDoor.K
namespace Go.Proofs.YtojoahlpgmnbnaaGreatDoor.K
open Go.Lib Go.Proofs.YtojoahlpgmnbnaaGreatDoor.U Go.Proofs.YtojoahlpgmnbnaaGreatDoor.S Go.Proofs.YtojoahlpgmnbnaaGreatDoor.T
structure Sz (n:Nat) (s:St):Prop where
 todo:s.todo.length≤6*n+3
 opn:s.opn.length≤n+1
 some':s.opn≠[]
 kids:∀ o∈s.opn,o.kids.length≤n
theorem sz_begun:Sz 0 begun:=⟨by simp [begun],by simp [begun],by simp [begun],fun o ho=>by
 simp only [begun,List.mem_singleton] at ho
 subst ho
 simp [root]⟩
section
variable {n i j:Nat} {R l:List Stp} {O O':List Open} {s1:St}
theorem sz_push {k:Nat} (_h:Sz n ⟨i,R,O⟩) (hl:l.length≤7) (h1:O'.length≤n+2) (h2:O'≠[]) (h3:∀ o∈O',o.kids.length≤n+1) (hk:R.length+1≤6*n+3):Sz (n+1) ⟨k,l++R,O'⟩ :=
 ⟨by rw [show (⟨k,l++R,O'⟩:St).todo=l++R from rfl,List.length_append];omega,h1,h2,h3⟩
theorem sz_same {k:Nat} (h:Sz n ⟨i,R,O⟩) (hl:l.length≤7) (hk:R.length+1≤6*n+3):Sz (n+1) ⟨k,l++R,O⟩ :=
 sz_push h hl (by have:=h.opn;show O.length≤_;exact Nat.le_succ_of_le this) h.some' (fun o ho=>Nat.le_succ_of_le (h.kids o ho)) hk
theorem sz_open {k:Nat} {o:Open} (h:Sz n ⟨i,R,O⟩) (ho:o.kids.length≤1) (hl:l.length≤7) (hk:R.length+1≤6*n+3):Sz (n+1) ⟨k,l++R,o :: O⟩ :=
 sz_push h hl (by have:O.length≤n+1:=h.opn;rw [List.length_cons];omega) (by simp) (fun q hq=>by
  rcases List.mem_cons.1 hq with rfl|hq
  ·omega
  ·exact Nat.le_succ_of_le (h.kids q hq)) hk
theorem text_kids {t:By} (h:textO t O=some O'):O'.length=O.length∧O'≠[]∧∀ q∈O',∃ o∈O,q.kids=o.kids:=by
 cases O with
 | nil=>cases h
 | cons o r =>
  cases h
  refine ⟨rfl,by simp,fun q hq=>?_⟩
  rcases List.mem_cons.1 hq with rfl|hq
  ·exact ⟨o,List.mem_cons_self,rfl⟩
  ·exact ⟨q,List.mem_cons_of_mem _ hq,rfl⟩
theorem kind_kids {t:By} (h:kindO t O=some O'):O'.length=O.length∧O'≠[]∧∀ q∈O',∃ o∈O,q.kids=o.kids:=by
 cases O with
 | nil=>cases h
 | cons o r =>
  cases h
  refine ⟨rfl,by simp,fun q hq=>?_⟩
  rcases List.mem_cons.1 hq with rfl|hq
  ·exact ⟨o,List.mem_cons_self,rfl⟩
  ·exact ⟨q,List.mem_cons_of_mem _ hq,rfl⟩
theorem close_kids {e:Int} (h:closeO e O=some O') (hk:∀ o∈O,o.kids.length≤n):O'.length≤O.length∧O'≠[]∧∀ q∈O',q.kids.length≤n+1:=by
 match O,h with
 | o :: a :: r,h =>
  unfold closeO at h
  dsimp only at h
  cases hc:o.close e with
  | none=>rw [hc] at h;cases h
  | some p =>
   rw [hc] at h
   cases h
   refine ⟨by simp,by simp,fun q hq=>?_⟩
   rcases List.mem_cons.1 hq with rfl|hq
   ·have h1:=hk a (List.mem_cons_of_mem _ List.mem_cons_self)
    show (a.kids++[p]).length≤_
    rw [List.length_append];exact Nat.succ_le_succ h1
   ·exact Nat.le_succ_of_le (hk q (List.mem_cons_of_mem _ (List.mem_cons_of_mem _ hq)))
theorem settle_kids {e s:Int}:∀ (r:List Open) (o:Open),settle e s o r=some O'→o.kids.length≤n+1→(∀ q∈r,q.kids.length≤n)→O'.length≤r.length+1∧O'≠[]∧∀ q∈O',q.kids.length≤n+1
 | [],o,h,h1,_=>by
  unfold settle at h
  split at h
  ·cases h
  ·cases h
   exact ⟨Nat.le_refl _,by simp,fun q hq=>by rw [List.mem_singleton.1 hq];exact h1⟩
 | a :: r,o,h,h1,h2=>by
  unfold settle at h
  split at h
  ·have h3:=settle_kids r _ h (by
    show (a.kids++[_]).length≤_
    rw [List.length_append];exact Nat.succ_le_succ (h2 a List.mem_cons_self)) (fun q hq=>h2 q (List.mem_cons_of_mem _ hq))
   exact ⟨Nat.le_trans h3.1 (by simp),h3.2⟩
  ·cases h
   refine ⟨by simp,by simp,fun q hq=>?_⟩
   rcases List.mem_cons.1 hq with rfl|hq
   ·exact h1
   ·exact Nat.le_succ_of_le (h2 q hq)
theorem wrap_kids {k:By} (h:wrapO k O=some O') (hk:∀ o∈O,o.kids.length≤n) (hn:1≤n):O'.length=O.length+1∧O'≠[]∧∀ q∈O',q.kids.length≤n:=by
 cases O with
 | nil=>cases h
 | cons a r =>
  unfold wrapO at h
  dsimp only at h
  cases hc:a.kids.getLast? with
  | none=>rw [hc] at h;cases h
  | some p =>
   rw [hc] at h
   cases h
   refine ⟨by simp,by simp,fun q hq=>?_⟩
   rcases List.mem_cons.1 hq with rfl|hq
   ·exact hn
   ·rcases List.mem_cons.1 hq with rfl|hq
    ·show a.kids.dropLast.length≤n
     rw [List.length_dropLast];exact Nat.le_trans (Nat.sub_le _ _) (hk a List.mem_cons_self)
    ·exact hk q (List.mem_cons_of_mem _ hq)
theorem sz_opt {k:Nat} {o:Option (List Open)} (hs:ofOpt k (l++R) o=.go s1) (hl:l.length≤7) (hk:R.length+1≤6*n+3) (ho:∀ O',o=some O'→O'.length≤n+2∧O'≠[]∧∀ q∈O',q.kids.length≤n+1):Sz (n+1) s1:=by
 cases o with
 | none=>cases hs
 | some O' =>
  cases hs
  obtain ⟨h1,h2,h3⟩:=ho O' rfl
  exact ⟨by rw [show (⟨k,l++R,O'⟩:St).todo=l++R from rfl,List.length_append];omega,h1,h2,h3⟩
end
variable {L:List TokP} {size:Nat}
theorem sz_step {n:Nat} {s s1:St} (h:Sz n s) (hs:stepS L size s=.go s1):Sz (n+1) s1:=by
 obtain ⟨i,todo,O⟩:=s
 cases todo with
 | nil=>cases hs
 | cons x R =>
  have h0:Sz n ⟨i,R,O⟩:=⟨Nat.le_trans (Nat.le_succ _) h.todo,h.opn,h.some',h.kids⟩
  have hk:R.length+1≤6*n+3:=h.todo
  have hsame:∀ k,Sz (n+1) ⟨k,R,O⟩:=fun k=>sz_same (l:=[]) h0 (by simp) hk
  have hop:∀ {kd:By} {l:List Stp},l.length≤7→opened L size kd ⟨i,R,O⟩ l=.go s1→Sz (n+1) s1:=fun hl h=>by cases h;exact sz_open h0 (by simp) hl hk
  have hpu:∀ {l:List Stp},l.length≤7→pushed ⟨i,R,O⟩ l=.go s1→Sz (n+1) s1:=fun hl h=>by cases h;exact sz_same h0 hl hk
  have hvar:varDecl L size ⟨i,R,O⟩=.go s1→Sz (n+1) s1:=hop (by simp)
  have hif:ifStmt L size ⟨i,R,O⟩=.go s1→Sz (n+1) s1:=hop (by simp)
  have hbl:blockM L size ⟨i,R,O⟩=.go s1→Sz (n+1) s1:=hop (by simp)
  have hex:exprM ⟨i,R,O⟩=.go s1→Sz (n+1) s1:=hpu (by simp)
  have htx:∀ {t:By} {l:List Stp},l.length≤7→ofOpt (i+1) (l++R) (textO t O)=.go s1→Sz (n+1) s1:=fun hl h=>sz_opt h hl hk (fun O' hO=>by
   obtain ⟨h1,h2,h3⟩:=text_kids hO
   exact ⟨by rw [h1];exact Nat.le_succ_of_le h0.opn,h2,fun q hq=>by obtain ⟨o,ho,e⟩:=h3 q hq;rw [e];exact Nat.le_succ_of_le (h0.kids o ho)⟩)
  have hkd:∀ {t:By} {l:List Stp},l.length≤7→ofOpt (i+1) (l++R) (kindO t O)=.go s1→Sz (n+1) s1:=fun hl h=>sz_opt h hl hk (fun O' hO=>by
   obtain ⟨h1,h2,h3⟩:=kind_kids hO
   exact ⟨by rw [h1];exact Nat.le_succ_of_le h0.opn,h2,fun q hq=>by obtain ⟨o,ho,e⟩:=h3 q hq;rw [e];exact Nat.le_succ_of_le (h0.kids o ho)⟩)
  have hwr:∀ {t:By} {l:List Stp},l.length≤7→ofOpt i (l++R) (wrapO t O)=.go s1→Sz (n+1) s1:=fun hl h=>sz_opt h hl hk (fun O' hO=>by
   obtain ⟨h1,h2,h3⟩:=wrap_kids (n:=n+1) hO (fun o ho=>Nat.le_succ_of_le (h0.kids o ho)) (by omega)
   exact ⟨by rw [h1];exact Nat.succ_le_succ h0.opn,h2,h3⟩)
  change exec L size x ⟨i,R,O⟩=.go s1 at hs
  cases x with
  | word t=>simp only [exec] at hs;split at hs <;> cases hs;exact hsame _
  | lines m=>simp only [exec] at hs;split at hs <;> cases hs;exact hsame _;exact sz_same (l:=[.m m,.more m]) h0 (by simp) hk
  | more m=>simp only [exec] at hs;split at hs;exact hpu (by simp) hs;cases hs;exact hsame _
  | commas m=>simp only [exec] at hs;split at hs;cases hs;exact hsame _;exact hpu (by simp) hs
  | moreC m=>simp only [exec] at hs;split at hs;exact hpu (by simp) hs;cases hs;exact hsame _
  | m k =>
   change execM L size k ⟨i,R,O⟩=.go s1 at hs
   cases k with
   | decl=>simp only [execM] at hs;(repeat' split at hs);exact hop (by simp) hs;exact hvar hs;exact hop (by simp) hs;cases hs
   | semis=>simp only [execM] at hs;cases hs;exact hsame _
   | noMore=>simp only [execM] at hs;split at hs <;> cases hs;exact hsame _
   | name=>simp only [execM] at hs;split at hs;exact htx (l:=[]) (by simp) hs;cases hs
   | params=>exact hop (by simp) hs
   | result =>
    simp only [execM] at hs
    split at hs
    ·split at hs
     ·cases hs
     ·cases O with
      | nil=>exact absurd rfl h0.some'
      | cons a r =>
       cases hs
       exact sz_push (l:=[]) h0 (by simp) (Nat.le_succ_of_le h0.opn) (by simp) (fun q hq=>by
        rcases List.mem_cons.1 hq with rfl|hq
        ·show (a.kids++[_]).length≤_
         rw [List.length_append];exact Nat.succ_le_succ (h0.kids a List.mem_cons_self)
        ·exact Nat.le_succ_of_le (h0.kids q (List.mem_cons_of_mem _ hq))) hk
    ·exact hop (by simp) hs
   | block=>exact hbl hs
   | fin =>
    simp only [execM,finM] at hs
    split at hs
    ·cases hs
    ·exact sz_opt (l:=[]) hs (by simp) hk (fun O' hO=>by
      obtain ⟨h1,h2,h3⟩:=close_kids hO h0.kids
      exact ⟨Nat.le_trans h1 (Nat.le_succ_of_le h0.opn),h2,h3⟩)
   | field=>exact hop (by simp) hs
   | param=>exact hop (by simp) hs
   | typeOf=>simp only [execM] at hs;(repeat' split at hs);all_goals exact hop (by simp) hs
   | stmt=>simp only [execM] at hs;(repeat' split at hs);exact hvar hs;exact hop (by simp) hs;exact hif hs;exact hop (by simp) hs;exact hbl hs;exact hop (by simp) hs
   | returned=>simp only [execM] at hs;split at hs;exact hex hs;cases hs;exact hsame _
   | expr=>exact hex hs
   | assigned=>simp only [execM] at hs;(repeat' split at hs);exact hkd (l:=[.m .pre,.m .between]) (by simp) hs;exact hkd (l:=[.m .pre,.m .between]) (by simp) hs;cases hs;exact hsame _
   | otherwise=>simp only [execM] at hs;split at hs;exact hpu (by simp) hs;cases hs;exact hsame _
   | pre=>simp only [execM] at hs;split at hs;exact hop (by simp) hs;exact hpu (by simp) hs
   | between =>
    simp only [execM,betweenM] at hs
    split at hs
    ·cases hs
    ·split at hs
     ·cases hs
     ·rename_i O2 h2
      have h4:O2.length≤n+1∧O2≠[]∧∀ q∈O2,q.kids.length≤n+1:=by
       cases O with
       | nil=>exact absurd rfl h0.some'
       | cons o r =>
        have h5:=settle_kids (n:=n) r o h2 (Nat.le_succ_of_le (h0.kids o List.mem_cons_self)) (fun q hq=>h0.kids q (List.mem_cons_of_mem _ hq))
        exact ⟨Nat.le_trans h5.1 h0.opn,h5.2⟩
      split at hs
      ·exact sz_opt hs (by simp) hk (fun O' hO=>by
        obtain ⟨h1,h3,h5⟩:=wrap_kids (n:=n+1) hO h4.2.2 (by omega)
        exact ⟨by rw [h1];exact Nat.succ_le_succ h4.1,h3,h5⟩)
      ·cases hs
       exact sz_push (l:=[]) h0 (by simp) (Nat.le_succ_of_le h4.1) h4.2.1 h4.2.2 hk
   | ifOrBlock=>simp only [execM] at hs;split at hs;exact hif hs;exact hbl hs
   | text=>simp only [execM] at hs;split at hs;exact htx (l:=[]) (by simp) hs;cases hs
   | behind=>simp only [execM] at hs;(repeat' split at hs);exact hwr (l:=[.word [46],.m .name,.m .fin,.m .behind]) (by simp) hs;exact hwr (l:=[.word [91],.m .expr,.word [93],.m .fin,.m .behind]) (by simp) hs;cases hs;exact hsame _
   | operand=>simp only [execM] at hs;(repeat' split at hs);all_goals exact hop (by simp) hs
   | called =>
    simp only [execM] at hs
    split at hs
    ·cases O with
     | nil=>exact absurd rfl h0.some'
     | cons o r =>
      have hb:∀ (q:Open),q.kids=o.kids→∀ k (l:List Stp),l.length≤7→Sz (n+1) ⟨k,l++R,q :: r⟩:=fun q hq k l hl=>sz_push h0 hl (Nat.le_succ_of_le h0.opn) (by simp) (fun z hz=>by
       rcases List.mem_cons.1 hz with rfl|hz
       ·rw [hq];exact Nat.le_succ_of_le (h0.kids o List.mem_cons_self)
       ·exact Nat.le_succ_of_le (h0.kids z (List.mem_cons_of_mem _ hz))) hk
      dsimp only at hs
      repeat' split at hs
      ·cases hs;exact hb { o with k:=kNew,t:=[] } rfl _ [.m .typeOf,.word [41]] (by simp)
      ·cases hs;exact hb { o with k:=kMake,t:=[] } rfl _ [.m .typeOf,.word [44],.m .expr,.word [41]] (by simp)
      ·cases hs;exact hb { o with k:=kCall } rfl _ [.commas .expr,.word [41]] (by simp)
    ·cases hs;exact hsame _
end Go.Proofs.YtojoahlpgmnbnaaGreatDoor.K
namespace Go.Proofs.YtojoahlpgmnbnaaGreatDoor.K
open Go.RowKit
open Go.Lib hiding intOf
open U S T
section
variable {d:Nat} {L:List TokP} {size:Nat} {lv:Value} {s:St} {O:Nat→Prop}
theorem close_some {e:Int} {O O':List Open} (h:closeO e O=some O'):∃ o a r p,O=o :: a :: r∧o.close e=some p∧O'=a.add p o.f :: r:=by
 match O,h with
 | o :: a :: r,h =>
  unfold closeO at h
  dsimp only at h
  cases hc:o.close e with
  | none=>rw [hc] at h;cases h
  | some p=>rw [hc] at h;cases h;exact ⟨o,a,r,p,rfl,hc,rfl⟩
theorem mth_any {W:World} (hM:Mem d L size lv s O W) (hs:Small L s) (hG:PTab O W) (hk1:∀ o∈s.opn,o.kids.length<1000000) (ho1:s.opn.length<1000000) (ho:s.opn≠[]) (k:Mth) (hr:execM L size k s≠.stuck) :
  Calls Tryz.prog (fnOf k) #[ptr d] W (Does d L size lv s.i O W (execM L size k s)):=by
 have ho':∃ o r,s.opn=o :: r:=by
  cases h:s.opn with
  | nil=>exact absurd h ho
  | cons o r=>exact ⟨o,r,rfl⟩
 cases k with
 | decl=>exact g_decl hM hs
 | semis=>exact g_semis hM hs
 | noMore=>exact g_noMore hM hs
 | name=>exact g_name hM hs ho'
 | params=>exact g_params hM hs
 | result=>exact g_result hM hs ho1 hr ho'
 | block=>exact g_block hM hs
 | fin =>
  have h1:execM L size .fin s=finM L size s:=rfl
  rw [h1] at hr ⊢
  unfold finM at hr ⊢
  by_cases h0:s.i=0
  ·rw [if_pos h0] at hr;exact absurd rfl hr
  ·rw [if_neg h0] at hr ⊢
   cases h2:closeO (tok L size (s.i - 1)).e s.opn with
   | none=>rw [h2] at hr;exact absurd rfl hr
   | some O' =>
    obtain ⟨o,a,r,p,h3,h4,rfl⟩:=close_some h2
    exact g_fin hM hs o a r h3 (by omega) p h4
 | field=>exact g_field hM hs
 | param=>exact g_param hM hs
 | typeOf=>exact g_typeOf hM hs
 | stmt=>exact g_stmt hM hs
 | returned=>exact g_returned hM hs
 | expr=>exact g_expr hM hs
 | assigned=>exact g_assigned hM hs ho'
 | otherwise=>exact g_otherwise hM hs
 | pre=>exact g_prefix hM hs
 | between=>exact g_between hM hs hG hk1 hr
 | ifOrBlock=>exact g_ifOrBlock hM hs
 | text =>
  have hi:s.i<L.length:=by
   by_cases h:s.i<L.length
   ·exact h
   ·simp only [execM,if_neg h] at hr;exact absurd rfl hr
  exact g_text hM hs ho' hi
 | behind=>exact g_behind hM hs hr
 | operand=>exact g_operand hM hs
 | called=>exact g_called hM hs ho'
set_option maxRecDepth 20000 in
theorem mth_call (k:Mth) (args:Array Value) (w:World):(callFunc (fnOf k) args).run Tryz.prog w=.ok (.enter (fnOf k) args) w:=by cases k <;> rfl
set_option maxRecDepth 20000 in
theorem step_any {W:World} (hM:Mem d L size lv s O W) (hs:Small L s) (hG:PTab O W) (hk1:∀ o∈s.opn,o.kids.length<1000000) (ho1:s.opn.length<1000000) (ho:s.opn≠[]) {x:Stp} {v:Value} (hx:StpIn O W d x v) (hr:exec L size x s≠.stuck) :
  (∃ f,v=.func (.func f) #[ptr d] #[]∧(∀ args w,(callFunc f args).run Tryz.prog w=.ok (.enter f args) w)∧Calls Tryz.prog f #[ptr d] W (Does d L size lv s.i O W (exec L size x s))) ∨
  (∃ f b1 b2,v=.func (.func f) #[] #[ptr b1,ptr b2]∧(∀ args w,(callFunc f args).run Tryz.prog w=.ok (.enter f args) w)∧Calls Tryz.prog f #[ptr b1,ptr b2] W (Does d L size lv s.i O W (exec L size x s))):=by
 cases x with
 | m k=>exact .inl ⟨_,hx,mth_call k,mth_any hM hs hG hk1 ho1 ho k hr⟩
 | word t=>obtain ⟨b1,b2,rfl,h1,h2⟩:=hx;exact .inr ⟨_,_,_,rfl,fun _ _=>rfl,g_word hM hs t b1 b2 h1 h2⟩
 | lines k=>obtain ⟨b1,b2,rfl,h1,h2⟩:=hx;exact .inr ⟨_,_,_,rfl,fun _ _=>rfl,g_lines hM hs k b1 b2 _ rfl h1 h2⟩
 | more k=>obtain ⟨b1,b2,rfl,h1,h2⟩:=hx;exact .inr ⟨_,_,_,rfl,fun _ _=>rfl,g_more hM hs k b1 b2 _ rfl h1 h2⟩
 | commas k=>obtain ⟨b1,b2,rfl,h1,h2⟩:=hx;exact .inr ⟨_,_,_,rfl,fun _ _=>rfl,g_commas hM hs k b1 b2 _ rfl h1 h2⟩
 | moreC k=>obtain ⟨b1,b2,rfl,h1,h2⟩:=hx;exact .inr ⟨_,_,_,rfl,fun _ _=>rfl,g_moreC hM hs k b1 b2 _ rfl h1 h2⟩
theorem MemX.step {W:World} {tv ov:Value} {bs:List (Option Nat)} {vs xs:List Value} {x:Stp} {R:List Stp} (hM:MemX d L size lv s O tv ov bs vs xs W) (hx:s.todo=x :: R):∃ v us,vs=us++[v]∧StpIn O W d x v∧StpsIn O W d R us∧us.length=R.length:=by
 have h:=hM.todo
 rw [hx] at h
 obtain ⟨v,us,h1,h2,h3⟩:=h
 exact ⟨v,us,h1,h2,h3,h3.length⟩
end
end Go.Proofs.YtojoahlpgmnbnaaGreatDoor.K
namespace Go.Proofs.YtojoahlpgmnbnaaGreatDoor.K
open Go.RowKit
open Go.Lib hiding intOf
open U S T
theorem assert_wrong (z:Int) (w:World):(Instr.typeAssert (.iface 124 (.int .i64 z)) 20 124 true).run Tryz.prog w=.ok (.tuple #[.int .i64 z,.bool true]) w:=by kernel_rfl
theorem assert_none (w:World):(Instr.typeAssert .nilIface 20 124 true).run Tryz.prog w=.ok (.tuple #[.int .i64 0,.bool false]) w:=by kernel_rfl
theorem catch_wrong (p q:Addr) (x y z:Int) (older:List PanicEntry) (w:World) (hc:w.cell? p=some (.int .i64 x)) (hz:w.frozen? p=false) (hc':(w.setCell p (.int .i64 z)).cell? q=some (.int .i64 y)) (hz':(w.setCell p (.int .i64 z)).frozen? q=false) :
  CallsD Tryz.prog 99 #[.pointer (some p),.pointer (some q)] (.panicking ({ v:=.iface 124 (.int .i64 z),recovered:=false } :: older)) w fun e u' w' =>
   e=.returned (.tuple #[])∧u'=.panicking ({ v:=.iface 124 (.int .i64 z),recovered:=true } :: older)∧w'=(w.setCell p (.int .i64 z)).setCell q (.int .i64 101):=by
 refine callsD_of_wpS Tryz.func99 rfl fun c₀ cs hu=>?_
 apply wpS_seq
 apply wpS_region
 simp [wpOpsS,go_sem,recoverD,hu,assert_wrong,Tryz.ntmps99,Exit.thenS]
 apply wpS_seq
 apply wpS_region
 simp [wpOpsS,go_sem,Exit.thenS]
 refine wpS_cond (t:=true) (by simp [Act.eval,Array.replicate]) ?_
 simp only [if_true]
 apply wpS_region
 simp [wpOpsS,go_sem,hc,hz,hc',hz',bodyPostS,results,Tryz.results99]
theorem catch_idle (p q:Addr) (w:World) :
  CallsD Tryz.prog 99 #[.pointer (some p),.pointer (some q)] .returning w fun e u' w'=>e=.returned (.tuple #[])∧u'=.returning∧w'=w:=by
 refine callsD_of_wpS Tryz.func99 rfl fun c₀ cs hu=>?_
 apply wpS_seq
 apply wpS_region
 simp [wpOpsS,go_sem,recoverD,hu,assert_none,Tryz.ntmps99,Exit.thenS]
 apply wpS_seq
 apply wpS_region
 simp [wpOpsS,go_sem,Exit.thenS]
 refine wpS_cond (t:=false) (by simp [Act.eval,Array.replicate]) ?_
 simp only [Bool.false_eq_true,if_false]
 refine wpS_of_wp (wp_skip ?_)
 cases c₀
 simp_all [bodyPostS,results,Tryz.results99]
end Go.Proofs.YtojoahlpgmnbnaaGreatDoor.K
namespace Go.Proofs.YtojoahlpgmnbnaaGreatDoor.K
open Go.Lib Go.Proofs.YtojoahlpgmnbnaaGreatDoor.U Go.Proofs.YtojoahlpgmnbnaaGreatDoor.S Go.Proofs.YtojoahlpgmnbnaaGreatDoor.T
inductive Fate where
 | part (p:Pt)
 | bad (j:Nat)
variable (L:List TokP) (size:Nat)
def Comes (n:Nat) (s:St):Fate→Prop
 | .part p=>∃ i f,Goes L size n s ⟨i,[],[root.add p f]⟩
 | .bad j=>Falls L size n s j
variable {L size}
theorem comes_end {n:Nat} {s:St} {o:Fate} (h:Comes L size n s o) (ht:s.todo=[]):∃ p f,o=.part p∧s.opn=[root.add p f]:=by
 have hst:stepS L size s=.stuck:=by unfold stepS;rw [ht]
 cases o with
 | part p =>
  obtain ⟨i,f,h⟩:=h
  cases h with
  | refl=>exact ⟨p,f,rfl,rfl⟩
  | step h1 _=>rw [hst] at h1;cases h1
 | bad j =>
  obtain ⟨s',h,h2,_⟩:=h
  cases h with
  | refl=>rw [hst] at h2;cases h2
  | step h1 _=>rw [hst] at h1;cases h1
theorem comes_step {n:Nat} {s:St} {o:Fate} (h:Comes L size n s o) (ht:s.todo≠[]):(stepS L size s=.wrong∧o=.bad s.i)∨∃ m s1,n=m+1∧stepS L size s=.go s1∧Comes L size m s1 o:=by
 cases o with
 | part p =>
  obtain ⟨i,f,h⟩:=h
  cases h with
  | refl=>exact absurd rfl ht
  | step h1 h2=>exact .inr ⟨_,_,rfl,h1,i,f,h2⟩
 | bad j =>
  obtain ⟨s',h,h2,h3⟩:=h
  cases h with
  | refl=>exact .inl ⟨h2,by rw [h3]⟩
  | step h1 h4=>exact .inr ⟨_,_,rfl,h1,s',h4,h2,h3⟩
def fate (L:List TokP):Fate:=match decl L (8*L.length+10) with
 | .ok p i=>if i+semiN L i<L.length then .bad (i+semiN L i) else .part p
 | .bad i=>.bad i
theorem run_fate (hL:∀ t∈L,Fine t):Comes L size (100*L.length+100) begun (fate L):=by
 have h:=run_sim size hL (8*L.length+10) (Nat.le_refl _)
 unfold fate
 cases h1:decl L (8*L.length+10) with
 | bad i=>rw [h1] at h;exact h
 | ok p i =>
  rw [h1] at h
  dsimp only at h ⊢
  by_cases h2:i+semiN L i<L.length
  ·rw [if_pos h2] at h ⊢;exact h
  ·rw [if_neg h2] at h ⊢
   obtain ⟨_,f,h3⟩:=h
   exact ⟨_,f,h3⟩
end Go.Proofs.YtojoahlpgmnbnaaGreatDoor.K
namespace Go.Proofs.YtojoahlpgmnbnaaGreatDoor.K
open Go.RowKit
open Go.Lib hiding intOf
open U S T
section
variable {d:Nat} {L:List TokP} {size:Nat} {lv:Value} {s:St} {O:Nat→Prop}
theorem todo_pop {W:World} {x:Stp} {R:List Stp} (hM:Mem d L size lv s O W) (hs:s.todo=x :: R) :
  ∃ g c v O',W.cell? ⟨d,2,none⟩=some (.slice (some ⟨g,0,none⟩) (R.length+1) c)∧W.frozen? ⟨d,2,none⟩=false∧W.cell? ⟨g,R.length,none⟩=some v∧R.length+1≤c ∧
   StpIn O' (W.setCell ⟨d,2,none⟩ (.slice (some ⟨g,0,none⟩) R.length c)) d x v ∧
   Mem d L size lv { s with todo:=R } O' (W.setCell ⟨d,2,none⟩ (.slice (some ⟨g,0,none⟩) R.length c))∧Stay O O' W (W.setCell ⟨d,2,none⟩ (.slice (some ⟨g,0,none⟩) R.length c)):=by
 obtain ⟨tv,ov,bs,vs,xs,hM⟩:=hM
 have hb:=hM.blk
 obtain ⟨v,us,rfl,hx,hR,hlen⟩:=MemX.step hM hs
 have hT:=hM.todoR
 rw [hs] at hT
 obtain ⟨g,c,rfl,_,hgl⟩:=hT.form (Nat.succ_pos _)
 have hgc:R.length+1≤c:=by
  rcases hT.2 with ⟨_,h⟩|⟨_,_,_,h1,_,_,h2,_⟩
  ·exact absurd h (Nat.succ_ne_zero _)
  ·cases h1;exact h2
 have hcell:W.cell? ⟨g,R.length,none⟩=some v:=by
  rw [hT.cellAt R.length (by rw [List.length_cons];omega),List.getElem?_append_right (by omega),hlen,Nat.sub_self]
  rfl
 have hgty:Ty W g 1:=owns_ty hT rfl
 obtain ⟨W',hW'⟩:∃ W',W.setCell ⟨d,2,none⟩ (.slice (some ⟨g,0,none⟩) R.length c)=W':=⟨_,rfl⟩
 have hset:∀ k,k≠d→W'.heap[k]?=W.heap[k]?:=fun k hk=>by rw [← hW'];exact Below.heap_setCell _ _ _ _ hk
 have hbl':W'.heap[d]?=some (.cells #[lv,.int .i64 s.i,.slice (some ⟨g,0,none⟩) R.length c,ov] 123 (0,0)):=by rw [← hW'];exact Go.Joins.block_setCell hb _
 have hsz:W'.heap.size=W.heap.size:=by rw [← hW'];simp
 have ne:∀ {k:Nat} {t:TypeId},Ty W k t→t≠123→k≠d:=fun h1 h2 e=>by rw [e] at h1;exact h2 (h1.one ⟨_,_,hb⟩)
 have hOd:O d:=(hM.own d).2 (.inl rfl)
 have hS:Stay O O W W':=⟨by rw [← hW'];rfl,by rw [← hW'];rfl,by rw [← hW'];rfl,by omega,fun _ h=>.inl h,fun k hk hO=>hset k (fun e=>hO (e ▸ hOd))⟩
 refine ⟨g,c,v,O,by simp [World.cell?,hb],by simp [World.frozen?,hb],hcell,hgc,?_,?_,?_⟩
 ·rw [hW'];exact hx.stay hS
 ·rw [hW']
  refine ⟨_,ov,bs,us,xs,hbl',hM.words.stay hS,?_,hR.stay hS,owns_at hM.opnR (fun k hk=>hset k (ne (owns_ty hM.opnR hk) (by decide))),OpensIn.stay hS hM.opn (fun k hk=>hset k (ne (opens_ty hM.opn hk) (by decide))),hM.apart,fun k=>?_⟩
  ·exact owns_at (owns_take hT (by rw [hlen,Nat.mul_one])) (fun k hk=>hset k (fun e=>by
    obtain rfl:g=k:=by simpa [Value.ownBlock] using hk
    exact ne hgty (by decide) e))
  ·exact hM.own k
 ·rw [hW'];exact hS
theorem todo_none {W:World} (hM:Mem d L size lv s O W) (hs:s.todo=[]):∃ a c,W.cell? ⟨d,2,none⟩=some (.slice a 0 c):=by
 obtain ⟨tv,ov,bs,vs,xs,hM⟩:=hM
 have hb:=hM.blk
 have hT:=hM.todoR
 rw [hs] at hT
 rcases hT.2 with ⟨rfl,_⟩|⟨g,c,cur,rfl,_⟩
 ·exact ⟨none,0,by simp [World.cell?,hb]⟩
 ·exact ⟨some ⟨g,0,none⟩,c,by simp [World.cell?,hb]⟩
end
end Go.Proofs.YtojoahlpgmnbnaaGreatDoor.K
namespace Go.Proofs.YtojoahlpgmnbnaaGreatDoor.K
open Go.Lib Go.Proofs.YtojoahlpgmnbnaaGreatDoor.U Go.Proofs.YtojoahlpgmnbnaaGreatDoor.S Go.Proofs.YtojoahlpgmnbnaaGreatDoor.T
def mapT (F E:Int→Int) (t:TokP):TokP:=⟨t.w,t.t,F t.f,E t.e⟩
mutual
def mapP (F E:Int→Int):Pt→Pt
 | .mk k t f e ks=>.mk k t (F f) (E e) (mapL F E ks)
def mapL (F E:Int→Int):List Pt→List Pt
 | []=>[]
 | p :: r=>mapP F E p :: mapL F E r
end
theorem mapL_map (F E:Int→Int):∀ l,mapL F E l=l.map (mapP F E)
 | []=>rfl
 | p :: r=>by rw [mapL,mapL_map F E r];rfl
def via {α β:Type} (h:α→β):Out α→Out β
 | .ok a i=>.ok (h a) i
 | .bad i=>.bad i
section
variable {α β γ:Type}
theorem next_via (o:Out α) (g:α→Nat→Out β) (h:β→γ):via h (o.next g)=o.next (fun a i=>via h (g a i)):=by cases o <;> rfl
theorem via_next (o:Out α) (h:α→β) (g:β→Nat→Out γ):(via h o).next g=o.next (fun a i=>g (h a) i):=by cases o <;> rfl
theorem via_ok (h:α→β) (a:α) (i:Nat):via h (.ok a i)=.ok (h a) i:=rfl
theorem via_bad (h:α→β) (i:Nat):via h (.bad i)=.bad i:=rfl
theorem via_ite (c:Prop) [Decidable c] (h:α→β) (a b:Out α):via h (if c then a else b)=if c then via h a else via h b:=by split <;> rfl
end
section
variable (F E:Int→Int) (L:List TokP)
theorem isT_map (x:By) (i:Nat):isT (L.map (mapT F E)) x i=isT L x i:=by
 unfold isT;rw [List.getElem?_map];cases L[i]? <;> rfl
theorem comesT_map (x:Int) (i:Nat):comesT (L.map (mapT F E)) x i=comesT L x i:=by
 unfold comesT;rw [List.getElem?_map];cases L[i]? <;> rfl
theorem textT_map (i:Nat):textT (L.map (mapT F E)) i=textT L i:=by
 unfold textT;rw [List.getElem?_map];cases L[i]? <;> rfl
theorem strongT_map (i:Nat):strongT (L.map (mapT F E)) i=strongT L i:=by
 unfold strongT;rw [List.getElem?_map];cases L[i]? <;> rfl
theorem mustT_map (x:By) (i:Nat):mustT (L.map (mapT F E)) x i=mustT L x i:=by unfold mustT;rw [isT_map]
theorem nameT_map (i:Nat):nameT (L.map (mapT F E)) i=nameT L i:=by unfold nameT;rw [comesT_map,textT_map]
theorem semiN_map (i:Nat):semiN (L.map (mapT F E)) i=semiN L i:=by
 unfold semiN
 rw [← List.map_drop]
 generalize L.drop i=l
 induction l with
 | nil=>rfl
 | cons t r ih =>
  simp only [List.map_cons,List.takeWhile_cons]
  show (if (t.w==5)=true then _ else _:List TokP).length=_
  split
  ·simp only [List.length_cons];rw [ih]
  ·rfl
variable {F E}
variable (hF:F 0=0) (hE:E 0=0)
include hF in
theorem fromT_map (i:Nat):fromT (L.map (mapT F E)) i=F (fromT L i):=by
 unfold fromT;rw [List.getElem?_map];cases L[i]? with
 | none=>exact hF.symm
 | some t=>rfl
include hE in
theorem toT_map (i:Nat):toT (L.map (mapT F E)) i=E (toT L i):=by
 unfold toT
 by_cases h:i=0
 ·rw [if_pos h,if_pos h];exact hE.symm
 ·rw [if_neg h,if_neg h,List.getElem?_map]
  cases L[i - 1]? with
  | none=>exact hE.symm
  | some t=>rfl
include hE in
theorem part_map (k t:By) (f:Int) (ks:List Pt) (i:Nat):T.part (L.map (mapT F E)) k t (F f) (mapL F E ks) i=via (mapP F E) (T.part L k t f ks i):=by
 unfold T.part;rw [toT_map L hE,via_ok,mapP]
include hE in
theorem part_map0 (k t:By) (f:Int) (i:Nat):T.part (L.map (mapT F E)) k t (F f) [] i=via (mapP F E) (T.part L k t f [] i):=part_map L hE k t f [] i
include hE in
theorem part_map1 (k t:By) (f:Int) (a:Pt) (i:Nat):T.part (L.map (mapT F E)) k t (F f) [mapP F E a] i=via (mapP F E) (T.part L k t f [a] i):=part_map L hE k t f [a] i
include hE in
theorem part_map2 (k t:By) (f:Int) (a b:Pt) (i:Nat):T.part (L.map (mapT F E)) k t (F f) [mapP F E a,mapP F E b] i=via (mapP F E) (T.part L k t f [a,b] i):=part_map L hE k t f [a,b] i
include hE in
theorem part_map3 (k t:By) (f:Int) (a b c:Pt) (i:Nat):T.part (L.map (mapT F E)) k t (F f) [mapP F E a,mapP F E b,mapP F E c] i=via (mapP F E) (T.part L k t f [a,b,c] i):=part_map L hE k t f [a,b,c] i
theorem mapL_snoc (F E:Int→Int) (l:List Pt) (p:Pt):mapL F E l++[mapP F E p]=mapL F E (l++[p]):=by rw [mapL_map,mapL_map,List.map_append];rfl
include hF hE in
theorem allP_map (k:By) (l:List Pt):allP k (mapL F E l)=mapP F E (allP k l):=by
 cases l with
 | nil=>rw [mapL,allP,mapP,hF,hE];rfl
 | cons p r =>
  have hlast:(mapL F E (p :: r)).getLast?=(p :: r).getLast?.map (mapP F E):=by rw [mapL_map,List.getLast?_map]
  obtain ⟨kk,t,f,e,ks⟩:=p
  rw [mapL,mapP] at hlast ⊢
  rw [allP,allP,mapP,hlast]
  cases h:(Pt.mk kk t f e ks :: r).getLast? with
  | none=>rw [List.getLast?_eq_none_iff] at h;cases h
  | some q =>
   obtain ⟨a1,a2,a3,a4,a5⟩:=q
   simp only [Option.map_some]
   rw [mapP,mapL,mapP]
include hF hE
theorem typed_map:∀ (n i:Nat),typed (L.map (mapT F E)) n i=via (mapP F E) (typed L n i)
 | 0,i=>rfl
 | n+1,i=>by
  simp only [typed,via_ite,next_via,isT_map,mustT_map,nameT_map,typed_map n,via_next,fromT_map L hF,part_map0 L hE,part_map1 L hE]
theorem param_map (n:Nat) (k:By) (i:Nat):param (L.map (mapT F E)) n k i=via (mapP F E) (param L n k i):=by
 simp only [param,next_via,nameT_map,typed_map L hF hE,via_next,fromT_map L hF,part_map1 L hE]
theorem params_map (m:Nat):∀ (n i:Nat) (acc:List Pt),params (L.map (mapT F E)) m n i (mapL F E acc)=via (mapL F E) (params L m n i acc)
 | 0,i,acc=>rfl
 | n+1,i,acc=>by
  simp only [params,via_ite,next_via,isT_map,mustT_map,param_map L hF hE,via_next,mapL_snoc,params_map m n,via_ok]
theorem fields_map (m:Nat):∀ (n i:Nat) (acc:List Pt),fields (L.map (mapT F E)) m n i (mapL F E acc)=via (mapL F E) (fields L m n i acc)
 | 0,i,acc=>rfl
 | n+1,i,acc=>by
  simp only [fields,via_ite,next_via,isT_map,semiN_map,param_map L hF hE,via_next,mapL_snoc,fields_map m n,via_ok,via_bad]
omit hF hE in
structure MapE (F E:Int→Int) (L:List TokP) (n:Nat):Prop where
 expr:∀ than i,expr (L.map (mapT F E)) n than i=via (mapP F E) (expr L n than i)
 exprs:∀ than f a i,exprs (L.map (mapT F E)) n than (F f) (mapP F E a) i=via (mapP F E) (exprs L n than f a i)
 prefixT:∀ i,prefixT (L.map (mapT F E)) n i=via (mapP F E) (prefixT L n i)
 tails:∀ f a i,tails (L.map (mapT F E)) n (F f) (mapP F E a) i=via (mapP F E) (tails L n f a i)
 operand:∀ i,operand (L.map (mapT F E)) n i=via (mapP F E) (operand L n i)
 args:∀ i acc,args (L.map (mapT F E)) n i (mapL F E acc)=via (mapL F E) (args L n i acc)
omit hF hE in
theorem map_mk (F E:Int→Int) (k t:By) (f e:Int) (ks:List Pt):Pt.mk k t (F f) (E e) (mapL F E ks)=mapP F E (.mk k t f e ks):=by rw [mapP]
omit hF hE in
theorem map_mk1 (F E:Int→Int) (k t:By) (f e:Int) (a:Pt):Pt.mk k t (F f) (E e) [mapP F E a]=mapP F E (.mk k t f e [a]):=map_mk F E k t f e [a]
omit hF hE in
theorem map_mk2 (F E:Int→Int) (k t:By) (f e:Int) (a b:Pt):Pt.mk k t (F f) (E e) [mapP F E a,mapP F E b]=mapP F E (.mk k t f e [a,b]):=map_mk F E k t f e [a,b]
theorem mapE:∀ n,MapE F E L n
 | 0=>⟨fun _ _=>by simp only [expr,via_bad],fun _ _ _ _=>by simp only [exprs,via_bad],fun _=>by simp only [prefixT,via_bad],fun _ _ _=>by simp only [tails,via_bad],fun _=>by simp only [operand,via_bad],fun _ _=>by simp only [args,via_bad]⟩
 | n+1=>by
  have ih:=mapE n
  have a0:∀ j,args (L.map (mapT F E)) n j []=via (mapL F E) (args L n j []):=fun j=>ih.args j []
  have hl:(L.map (mapT F E)).length=L.length:=List.length_map _
  refine ⟨fun than i=>?_,fun than f a i=>?_,fun i=>?_,fun f a i=>?_,fun i=>?_,fun i acc=>?_⟩
  ·simp only [expr,next_via,ih.prefixT,via_next,fromT_map L hF,ih.exprs]
  ·simp only [exprs,via_ite,next_via,ih.expr,via_next,textT_map,strongT_map,toT_map L hE,map_mk2,ih.exprs,via_ok,hl]
  ·simp only [prefixT,via_ite,next_via,isT_map,ih.prefixT,ih.operand,ih.tails,via_next,fromT_map L hF,part_map1 L hE]
  ·simp only [tails,via_ite,next_via,isT_map,mustT_map,nameT_map,ih.expr,via_next,toT_map L hE,map_mk1,map_mk2,ih.tails,via_ok]
  ·simp only [operand,via_ite,next_via,isT_map,comesT_map,textT_map,mustT_map,nameT_map,ih.expr,typed_map L hF hE,a0,via_next,fromT_map L hF,part_map L hE,part_map0 L hE,part_map1 L hE,part_map2 L hE,via_ok]
  ·simp only [args,via_ite,next_via,isT_map,mustT_map,ih.expr,via_next,mapL_snoc,ih.args,via_ok]
theorem variable_map (n i:Nat):variable' (L.map (mapT F E)) n i=via (mapP F E) (variable' L n i):=by
 simp only [variable',next_via,mustT_map,nameT_map,typed_map L hF hE,via_next,fromT_map L hF,part_map1 L hE]
omit hF hE in
structure MapS (F E:Int→Int) (L:List TokP) (n:Nat):Prop where
 block:∀ i,block (L.map (mapT F E)) n i=via (mapP F E) (block L n i)
 stmts:∀ i acc,stmts (L.map (mapT F E)) n i (mapL F E acc)=via (mapL F E) (stmts L n i acc)
 branch:∀ i,branch (L.map (mapT F E)) n i=via (mapP F E) (branch L n i)
 stmt:∀ i,stmt (L.map (mapT F E)) n i=via (mapP F E) (stmt L n i)
theorem mapS:∀ n,MapS F E L n
 | 0=>⟨fun _=>by simp only [block,via_bad],fun _ _=>by simp only [stmts,via_bad],fun _=>by simp only [branch,via_bad],fun _=>by simp only [stmt,via_bad]⟩
 | n+1=>by
  have ih:=mapS n
  have he:=mapE L hF hE n
  have s0:∀ j,stmts (L.map (mapT F E)) n j []=via (mapL F E) (stmts L n j []):=fun j=>ih.stmts j []
  refine ⟨fun i=>?_,fun i acc=>?_,fun i=>?_,fun i=>?_⟩
  ·simp only [block,next_via,mustT_map,semiN_map,s0,via_next,fromT_map L hF,part_map L hE]
  ·simp only [stmts,via_ite,next_via,isT_map,semiN_map,ih.stmt,via_next,mapL_snoc,ih.stmts,via_ok,via_bad]
  ·simp only [branch,via_ite,next_via,isT_map,mustT_map,he.expr,ih.block,ih.branch,via_next,fromT_map L hF,part_map2 L hE,part_map3 L hE]
  ·simp only [stmt,via_ite,next_via,isT_map,comesT_map,variable_map L hF hE,ih.branch,ih.block,he.expr,via_next,fromT_map L hF,part_map0 L hE,part_map1 L hE,part_map2 L hE]
theorem decl_map (n:Nat):decl (L.map (mapT F E)) n=via (mapP F E) (decl L n):=by
 have hb:=mapS L hF hE n
 have p0:∀ j,params (L.map (mapT F E)) n n j []=via (mapL F E) (params L n n j []):=fun j=>params_map L hF hE n n j []
 have f0:∀ j,fields (L.map (mapT F E)) n n j []=via (mapL F E) (fields L n n j []):=fun j=>fields_map L hF hE n n j []
 have e0:∀ m,(.ok [] m:Out (List Pt))=via (mapL F E) (.ok [] m):=fun m=>rfl
 have e1:∀ x m,(.ok [mapP F E x] m:Out (List Pt))=via (mapL F E) (.ok [x] m):=fun x m=>rfl
 have hf:func' (L.map (mapT F E)) n 0=via (mapP F E) (func' L n 0):=by
  simp only [func',next_via,isT_map,mustT_map,nameT_map,p0,typed_map L hF hE,hb.block,fromT_map L hF,via_next]
  congr 1;funext _ j;congr 1;funext s k;congr 1;funext _ m
  rw [show (if isT L [41] m then (.ok [] (m+1):Out (List Pt)) else via (mapL F E) (params L n n m []))=via (mapL F E) (if isT L [41] m then .ok [] (m+1) else params L n n m []) by split <;> rfl,via_next]
  congr 1;funext ps o
  rw [show (if isT L [123] o then (.ok [] o:Out (List Pt)) else (typed L n o).next fun x q=>.ok [mapP F E x] q)=via (mapL F E) (if isT L [123] o then .ok [] o else (typed L n o).next fun x q=>.ok [x] q) by
   split
   ·rfl
   ·rw [next_via];rfl,via_next]
  congr 1;funext rs q
  congr 1;funext b r
  rw [allP_map hF hE,allP_map hF hE,part_map3 L hE]
 have hr:record (L.map (mapT F E)) n 0=via (mapP F E) (record L n 0):=by
  simp only [record,next_via,mustT_map,nameT_map,semiN_map,f0,via_next,fromT_map L hF,part_map L hE]
 simp only [decl,isT_map,hf,hr,variable_map L hF hE,via_ite,via_bad]
end
def Fate.map (F E:Int→Int):Fate→Fate
 | .part p=>.part (mapP F E p)
 | .bad j=>.bad j
theorem fate_map {F E:Int→Int} (L:List TokP) (hF:F 0=0) (hE:E 0=0):fate (L.map (mapT F E))=(fate L).map F E:=by
 unfold fate
 rw [decl_map L hF hE,List.length_map]
 cases decl L (8*L.length+10) with
 | bad i=>rfl
 | ok p i =>
  simp only [via_ok,semiN_map]
  split <;> rfl
end Go.Proofs.YtojoahlpgmnbnaaGreatDoor.K
namespace Go.Proofs.YtojoahlpgmnbnaaGreatDoor.K
open Go.Lib Go.Proofs.YtojoahlpgmnbnaaGreatDoor.U Go.Proofs.YtojoahlpgmnbnaaGreatDoor.S Go.Proofs.YtojoahlpgmnbnaaGreatDoor.T
def endP:Pt→Int
 | .mk _ _ _ e _=>e
def lastOf (a:Nat) (p:Pt):Nat:=if endP p=0 then a else (endP p).toNat
mutual
def Wi (L:List TokP):Pt→Nat→Nat→Prop
 | .mk _ _ f e ks,a,b=>(f=0∧e=0∧ks=[])∨∃ i j:Nat,f=(i:Int)+1∧e=(j:Int)∧a≤i∧i<j∧j≤b∧j≤L.length∧comesT L 5 (j - 1)=false∧WiL L ks i j
def WiL (L:List TokP):List Pt→Nat→Nat→Prop
 | [],_,_=>True
 | p :: r,a,b=>Wi L p a b∧WiL L r (lastOf a p) b
end
def Idx (L:List TokP):Prop:=∀ (i:Nat) (t:TokP),L[i]?=some t→t.f=(i:Int)+1∧t.e=(i:Int)+1
structure Ends (L:List TokP) (i j:Nat):Prop where
 lt:i<j
 le:j≤L.length
 ns:comesT L 5 (j - 1)=false
structure Rd (L:List TokP) (i j:Nat) (p:Pt):Prop extends Ends L i j where
 wi:Wi L p i j
 nz:0<endP p
section
variable {α β:Type} {L:List TokP} {i j a b a' b':Nat} {p:Pt}
theorem next_ok {o:Out α} {f:α→Nat→Out β} {y:β} {k:Nat}:o.next f=.ok y k ↔ ∃ x i,o=.ok x i∧f x i=.ok y k:=by
 cases o with
 | ok x i=>exact Iff.intro (fun h=>⟨x,i,rfl,h⟩) (by rintro ⟨_,_,h1,h2⟩;cases h1;exact h2)
 | bad i=>exact Iff.intro (fun h=>by cases h) (by rintro ⟨_,_,h1,_⟩;cases h1)
theorem Ends.mono (h:Ends L i j) (hi:a≤i):Ends L a j:=⟨Nat.lt_of_le_of_lt hi h.lt,h.le,h.ns⟩
theorem Wi.mono:∀ {p:Pt},Wi L p a b→a'≤a→b≤b'→Wi L p a' b'
 | .mk k t f e ks,h,ha,hb=>by
  unfold Wi at h ⊢
  rcases h with h|⟨i,j,h1,h2,h3,h4,h5,h6⟩
  ·exact .inl h
  ·exact .inr ⟨i,j,h1,h2,Nat.le_trans ha h3,h4,Nat.le_trans h5 hb,h6⟩
theorem Wi.last:∀ {p:Pt},Wi L p a b→lastOf a p≤max a b
 | .mk k t f e ks,h=>by
  unfold Wi at h
  rcases h with ⟨h1,h2,h3⟩|⟨i,j,h1,h2,h3,h4,h5,h6⟩
  ·subst h1 h2
   show (if (0:Int)=0 then a else _)≤_
   rw [if_pos rfl];omega
  ·subst h2
   show (if (j:Int)=0 then a else (j:Int).toNat)≤_
   split <;> omega
theorem lastOf_mono (h:a'≤a):lastOf a' p≤lastOf a p:=by unfold lastOf;split <;> omega
theorem WiL.mono:∀ {l:List Pt} {a a':Nat},WiL L l a b→a'≤a→b≤b'→WiL L l a' b'
 | [],_,_,_,_,_=>by unfold WiL;trivial
 | p :: r,_,_,h,ha,hb=>by
  unfold WiL at h ⊢
  exact ⟨h.1.mono ha hb,h.2.mono (lastOf_mono ha) hb⟩
theorem WiL.nil:WiL L [] a b:=by unfold WiL;trivial
theorem WiL.snoc {m:Nat}:∀ {l:List Pt} {a:Nat},WiL L l a m→Wi L p m b→a≤m→m≤b→WiL L (l++[p]) a b
 | [],a,_,h,ha,_=>by
  show WiL L [p] a b
  unfold WiL
  exact ⟨h.mono ha (Nat.le_refl _),.nil⟩
 | q :: r,a,hl,h,ha,hb=>by
  show WiL L (q :: (r++[p])) a b
  unfold WiL at hl ⊢
  have h2:=hl.1.last
  exact ⟨hl.1.mono (Nat.le_refl _) hb,hl.2.snoc h (by omega) hb⟩
theorem WiL.one (h:Wi L p a b):WiL L [p] a b:=by unfold WiL;exact ⟨h,.nil⟩
theorem WiL.two {q:Pt} {m:Nat} (h:Wi L p a m) (k:Wi L q m b) (ha:a≤m) (hb:m≤b):WiL L [p,q] a b:=WiL.snoc (l:=[p]) (.one h) k ha hb
section
variable (hI:Idx L)
include hI
structure RdE (L:List TokP) (n:Nat):Prop where
 expr:∀ than i p j,expr L n than i=.ok p j→Rd L i j p
 exprs:∀ than f a i p j i0,exprs L n than f a i=.ok p j→f=fromT L i0→Rd L i0 i a→Rd L i0 j p
 prefixT:∀ i p j,prefixT L n i=.ok p j→Rd L i j p
 tails:∀ f a i p j i0,tails L n f a i=.ok p j→f=fromT L i0→Rd L i0 i a→Rd L i0 j p
 operand:∀ i p j,operand L n i=.ok p j→Rd L i j p
 args:∀ i acc l j,args L n i acc=.ok l j→Ends L i j∧∀ a,a≤i→WiL L acc a i→WiL L l a j
structure RdS (L:List TokP) (n:Nat):Prop where
 block:∀ i p j,block L n i=.ok p j→Rd L i j p
 stmts:∀ i acc l j,stmts L n i acc=.ok l j→i≤j∧∀ a,a≤i→WiL L acc a i→WiL L l a j
 branch:∀ i p j,branch L n i=.ok p j→Rd L i j p
 stmt:∀ i p j,stmt L n i=.ok p j→Rd L i j p
end
end
end Go.Proofs.YtojoahlpgmnbnaaGreatDoor.K
namespace Go.Proofs.YtojoahlpgmnbnaaGreatDoor.Q
open Go.Lib Go.Proofs.YtojoahlpgmnbnaaGreatDoor.U Go.Proofs.YtojoahlpgmnbnaaGreatDoor.S
def kw (x:By):Bool:=x==[102,117,110,99]||x==[118,97,114]||x==[116,121,112,101]
def declW (l:By):Bool:=kw (l.takeWhile nmc)
def beg (s:By) (i:Nat):Bool:=(decide (i=0)||decide (s[i - 1]?=some 10))&&declW (s.drop i)
theorem kw_not {c:UInt8} (h:lett c=false) (x:By):kw (c :: x)=false:=by
 unfold kw
 have h1:¬ c=102:=by rintro rfl;simp [lett] at h
 have h2:¬ c=118:=by rintro rfl;simp [lett] at h
 have h3:¬ c=116:=by rintro rfl;simp [lett] at h
 simp [h1,h2,h3]
theorem declW_not {c:UInt8} (h:lett c=false) (x:By):declW (c :: x)=false:=by
 unfold declW
 rw [List.takeWhile_cons]
 split
 ·exact kw_not h _
 ·rfl
theorem declW_stop (a b:By):declW (a++10 :: b)=declW a:=by unfold declW;rw [tw_stop (show nmc 10=false by decide)]
theorem rises_head {s:By} {a:Nat} {t:TokP} {r:List TokP} (h:Rises s a (t :: r)):(a:Int)≤t.f:=by
 cases h with
 | cons h _ _=>rw [h.from_];have:=h.le;omega
theorem lett_blank {c:UInt8} (h:S.blank c=true):lett c=false:=by
 unfold S.blank at h
 simp at h
 rcases h with ((rfl|rfl)|rfl)|rfl <;> decide
theorem declW_scan (r:Bool) (l:By):(scanB r l=[]→declW l=false)∧∀ t u,scanB r l=t :: u→(0<t.f→declW l=false)∧(¬ 0<t.f→declW l=kw t.t):=by
 cases l with
 | nil=>exact ⟨fun _=>rfl,fun t u h=>by cases h⟩
 | cons c x =>
  have hri:∀ p,p≤(c :: x).length→Rises (c :: x) p (scanF r (c :: x).length ((c :: x).drop p) p false):=fun p hp =>
   scanF_rises r (c :: x) _ p p false (Nat.le_refl _) hp (gap_nil _ _)
  have hfar:∀ p,1≤p→p≤(c :: x).length→lett c=false→∀ L,scanF r (c :: x).length ((c :: x).drop p) p false=L →
    (L=[]→declW (c :: x)=false)∧∀ t u,L=t :: u→(0<t.f→declW (c :: x)=false)∧(¬ 0<t.f→declW (c :: x)=kw t.t):=fun p h1 h2 h3 L hL=>by
   refine ⟨fun _=>declW_not h3 x,fun t u h=>⟨fun _=>declW_not h3 x,fun h4=>?_⟩⟩
   have:=hri p h2
   rw [hL,h] at this
   have:=rises_head this
   omega
  have hsc:scanB r (c :: x)=scanF r ((c :: x).length+1) (c :: x) 0 false:=rfl
  simp only [scanF] at hsc
  rw [if_neg (by simp)] at hsc
  by_cases hb:S.blank c=true
  ·rw [if_pos hb] at hsc
   rw [hsc]
   exact hfar 1 (Nat.le_refl _) (by simp) (lett_blank hb) _ rfl
  ·rw [if_neg hb] at hsc
   by_cases hk:0<cmtLen (c :: x)
   ·rw [if_pos hk,Nat.zero_add] at hsc
    rw [hsc]
    refine hfar _ hk (cmt_le _) ?_ _ rfl
    match x,hk with
    | [],hk=>simp [cmtLen] at hk
    | b :: y,hk =>
     simp only [cmtLen] at hk
     split at hk
     ·rename_i h;rw [h.1];rfl
     ·omega
   ·rw [if_neg hk] at hsc
    rw [hsc]
    refine ⟨fun h=>by (cases h),fun t u h=>?_⟩
    simp only [List.cons.injEq] at h
    obtain ⟨rfl,_⟩:=h
    refine ⟨fun h=>by simp at h,fun _=>?_⟩
    simp only
    have hwb:=(word_bounds r (l:=c :: x) (by simp)).1
    by_cases hl:lett c=true
    ·have hn:nameLen (c :: x)=(x.takeWhile nmc).length+1:=by simp only [nameLen,hl,if_true];omega
     have hw:(wordL r (c :: x)).2=nameLen (c :: x):=by
      unfold wordL
      rw [if_pos (by omega)]
     rw [hw,hn,List.take_succ_cons,tw_take]
     unfold declW
     rw [List.takeWhile_cons,if_pos (by unfold nmc;rw [hl];rfl)]
    ·have hl':lett c=false:=by simpa using hl
     obtain ⟨m,hm⟩:∃ m,(wordL r (c :: x)).2=m+1:=⟨(wordL r (c :: x)).2 - 1,by omega⟩
     rw [hm,List.take_succ_cons,kw_not hl',declW_not hl']
end Go.Proofs.YtojoahlpgmnbnaaGreatDoor.Q
namespace Go.Proofs.YtojoahlpgmnbnaaGreatDoor.K
open Go.Lib Go.Proofs.YtojoahlpgmnbnaaGreatDoor.U Go.Proofs.YtojoahlpgmnbnaaGreatDoor.S Go.Proofs.YtojoahlpgmnbnaaGreatDoor.T
theorem sp_key:∀ x∈special,keyB x=true∨lett (x.headD 0)=false:=by decide
theorem sp_fig:∀ x∈special,figu (x.headD 0)=false∧x.headD 0≠34∧x.headD 0≠59∧x≠[]:=by decide
theorem wt_key:∀ x∈weight,lett (x.headD 0)=false∧figu (x.headD 0)=false∧x.headD 0≠34∧x.headD 0≠59∧x≠[]:=by decide
theorem word_fine (right:Bool) (c:UInt8) (r:By) (f e:Int):Fine ⟨(wordL right (c :: r)).1,(c :: r).take (wordL right (c :: r)).2,f,e⟩:=by
 have hb:=word_bounds right (l:=c :: r) (by simp)
 obtain ⟨k,hk⟩:∃ k,(wordL right (c :: r)).2=k+1:=⟨(wordL right (c :: r)).2 - 1,by omega⟩
 have hd:((c :: r).take (wordL right (c :: r)).2).headD 0=c:=by rw [hk];rfl
 have hw:wordL right (c :: r)=wordL right (c :: r):=rfl
 obtain ⟨x,hx⟩:∃ x,(c :: r).take (wordL right (c :: r)).2=x:=⟨_,rfl⟩
 rw [hx] at hd ⊢
 unfold wordL at hx ⊢
 split at hx
 ·rename_i h1
  rw [if_pos h1]
  dsimp only at hx ⊢
  rw [hx]
  have hl:lett c=true:=by
   by_cases h:lett c=true
   ·exact h
   ·have h2:nameLen (c :: r)=0:=by simp only [nameLen];rw [if_neg h]
    omega
  refine ⟨by dsimp only;split <;> decide,fun h=>?_,fun h=>?_⟩
  ·rcases sp_key x h with h2|h2
   ·dsimp only;rw [if_pos h2];exact .inr rfl
   ·rw [hd,hl] at h2;cases h2
  ·have h2:=(wt_key x h).1
   rw [hd,hl] at h2;cases h2
 ·rename_i h1
  rw [if_neg h1]
  split at hx
  ·rename_i h2
   rw [if_pos h2]
   have hl:figu c=true:=by
    unfold numLen at h2
    by_cases h:figu c=true
    ·exact h
    ·rw [List.takeWhile_cons,if_neg h] at h2;exact absurd h2 (by decide)
   refine ⟨(by decide:(1:Int)≠-1),fun h=>?_,fun h=>?_⟩
   ·have h3:=(sp_fig x h).1;rw [hd,hl] at h3;cases h3
   ·have h3:=(wt_key x h).2.1;rw [hd,hl] at h3;cases h3
  ·rename_i h2
   rw [if_neg h2]
   split at hx
   ·rename_i h3
    rw [if_pos h3]
    have hl:c=34:=by
     by_cases h:c=34
     ·exact h
     ·have h2:quoLen (c :: r)=0:=by simp only [quoLen];rw [if_neg h]
      omega
    refine ⟨(by decide:(2:Int)≠-1),fun h=>?_,fun h=>?_⟩
    ·exact absurd (hd.trans hl) (sp_fig x h).2.1
    ·exact absurd (hd.trans hl) (wt_key x h).2.2.1
   ·rename_i h3
    rw [if_neg h3]
    split at hx
    ·rename_i h4
     rw [if_pos h4]
     have hl:c=59:=by simpa using h4
     refine ⟨(by decide:(5:Int)≠-1),fun h=>?_,fun h=>?_⟩
     ·exact absurd (hd.trans hl) (sp_fig x h).2.2.1
     ·exact absurd (hd.trans hl) (wt_key x h).2.2.2.1
    ·rename_i h4
     rw [if_neg h4]
     exact ⟨(by decide:(4:Int)≠-1),fun _=>.inl rfl,fun _=>rfl⟩
theorem semi_fine (f e:Int):Fine ⟨5,[],f,e⟩:=⟨(by decide:(5:Int)≠-1),fun h=>absurd rfl (sp_fig [] h).2.2.2,fun h=>absurd rfl (wt_key [] h).2.2.2.2⟩
theorem scanF_fine (right:Bool):∀ (n:Nat) (l:By) (pos:Nat) (ended:Bool),∀ t∈scanF right n l pos ended,Fine t
 | 0,_,_,_,t,h=>by cases h
 | n+1,[],pos,ended,t,h=>by
  simp only [scanF] at h
  split at h
  ·rw [List.mem_singleton.1 h];exact semi_fine _ _
  ·cases h
 | n+1,c :: r,pos,ended,t,h=>by
  simp only [scanF] at h
  split at h
  ·rcases List.mem_cons.1 h with rfl|h
   ·exact semi_fine _ _
   ·exact scanF_fine right n _ _ _ t h
  ·split at h
   ·exact scanF_fine right n _ _ _ t h
   ·split at h
    ·exact scanF_fine right n _ _ _ t h
    ·rcases List.mem_cons.1 h with rfl|h
     ·exact word_fine right c r _ _
     ·exact scanF_fine right n _ _ _ t h
theorem scan_fine (right:Bool) (l:By):∀ t∈scanB right l,Fine t:=scanF_fine right _ _ _ _
end Go.Proofs.YtojoahlpgmnbnaaGreatDoor.K
namespace Go.Proofs.YtojoahlpgmnbnaaGreatDoor.K
open Go.Lib Go.Proofs.YtojoahlpgmnbnaaGreatDoor.U Go.Proofs.YtojoahlpgmnbnaaGreatDoor.S Go.Proofs.YtojoahlpgmnbnaaGreatDoor.T
def wt (t:TokP):Int × By:=(t.w,t.t)
def FF (L:List TokP) (x:Int):Int:=if x≤0 then 0 else match L[x.toNat - 1]? with
 | some t=>t.f
 | none=>0
def EE (L:List TokP) (x:Int):Int:=if x≤0 then 0 else match L[x.toNat - 1]? with
 | some t=>t.e
 | none=>0
def idxT (L:List TokP):List TokP:=L.mapIdx fun i t=>⟨t.w,t.t,(i:Int)+1,(i:Int)+1⟩
theorem ff_at {L:List TokP} {i:Nat} {t:TokP} (h:L[i]?=some t):FF L ((i:Int)+1)=t.f∧EE L ((i:Int)+1)=t.e:=by
 have h1:((i:Int)+1).toNat - 1=i:=by omega
 unfold FF EE
 rw [if_neg (by omega),if_neg (by omega),h1,h]
 exact ⟨rfl,rfl⟩
theorem idx_map {L L':List TokP} (h:L'.map wt=L.map wt):(idxT L).map (mapT (FF L') (EE L'))=L':=by
 refine List.ext_getElem? fun i=>?_
 have h1:=congrArg (fun l:List (Int × By)=>l[i]?) h
 rw [List.getElem?_map,List.getElem?_map] at h1
 unfold idxT
 rw [List.getElem?_map,List.getElem?_mapIdx]
 cases h2:L[i]? with
 | none=>rw [h2] at h1;cases h3:L'[i]? with
  | none=>rfl
  | some u=>rw [h3] at h1;cases h1
 | some t=>rw [h2] at h1;cases h3:L'[i]? with
  | none=>rw [h3] at h1;cases h1
  | some u =>
   rw [h3] at h1
   obtain ⟨h4,h5⟩:=ff_at h3
   simp only [Option.map_some,mapT,Option.some.injEq]
   simp only [Option.map_some,Option.some.injEq,wt,Prod.mk.injEq] at h1
   rw [h4,h5,← h1.1,← h1.2]
theorem fate_idx {L L':List TokP} (h:L'.map wt=L.map wt):fate L'=(fate (idxT L)).map (FF L') (EE L'):=by
 rw [← fate_map (idxT L) (F:=FF L') (E:=EE L') rfl rfl,idx_map h]
structure Ups (F E:Int→Int) (n:Nat) (lo hi:Int):Prop where
 ff:∀ x y:Nat,1≤x→x≤y→y≤n→F x≤F y
 fe:∀ x y:Nat,1≤x→x≤y→y≤n→F x≤E y
 ef:∀ x y:Nat,1≤x→x<y→y≤n→E x≤F y
 ee:∀ x y:Nat,1≤x→x≤y→y≤n→E x≤E y
 lo:∀ x:Nat,1≤x→x≤n→lo≤F x
 hi:∀ x:Nat,1≤x→x≤n→E x≤hi
 pos:∀ x:Nat,1≤x→x≤n→0<E x
section
variable {F E:Int→Int} {L:List TokP} {lo hi:Int} (U:Ups F E L.length lo hi) (hF:F 0=0) (hE:E 0=0)
include U hF hE
end
theorem rises_at {s:By}:∀ {L:List TokP} {a:Nat},Rises s a L→∀ (i:Nat) (t:TokP),L[i]?=some t→(a:Int)≤t.f∧t.f≤t.e∧t.e≤(s.length:Int)∧((t.w=5∧t.t=[])∨(t.t≠[]∧t.f<t.e∧t.f<(s.length:Int)))
 | [],_,_,i,t,h=>by cases h
 | u :: r,a,hr,i,t,h=>by
  cases hr with
  | cons hk hl hr =>
   rename_i f e
   cases i with
   | zero =>
    cases h
    have h1:=hk.from_;have h2:=hk.to_;have h3:=hk.le;have h4:=hk.fe;have h5:=hk.end_
    refine ⟨by omega,by omega,by omega,?_⟩
    rcases hk.text with h6|h6
    ·exact .inl ⟨h6.1,h6.2.1⟩
    ·refine .inr ⟨h6.1,?_,?_⟩
     ·have:f<e:=by
       by_cases h7:f<e
       ·exact h7
       ·have:e - f=0:=by omega
        rw [this] at h6;exact absurd h6.2 (by rw [List.take_zero];exact h6.1)
      omega
     ·have:f<s.length:=by
       by_cases h7:f<s.length
       ·exact h7
       ·rw [List.drop_of_length_le (by omega)] at h6;exact absurd h6.2 (by rw [List.take_nil];exact h6.1)
      omega
   | succ i =>
    have h1:=rises_at hr i t h
    have h3:=hk.le;have h4:=hk.fe
    exact ⟨by omega,h1.2⟩
def zeroP:Pt:=.mk [] [] 0 0 []
def declP (L:List TokP) (size:Nat):Pt × Int × Int:=match fate L with
 | .bad j=>(zeroP,(tok L size j).f,101)
 | .part p=>if 40<deep p then (zeroP,0,22) else (p,0,0)
end Go.Proofs.YtojoahlpgmnbnaaGreatDoor.K
namespace Go.Proofs.YtojoahlpgmnbnaaGreatDoor.K
open Go.Lib Go.Proofs.YtojoahlpgmnbnaaGreatDoor.U Go.Proofs.YtojoahlpgmnbnaaGreatDoor.S Go.Proofs.YtojoahlpgmnbnaaGreatDoor.T
mutual
def Nn:Pt→Prop
 | .mk k _ _ _ ks=>k≠[]∧NnL ks
def NnL:List Pt→Prop
 | []=>True
 | p :: r=>Nn p∧NnL r
end
theorem NnL.nil:NnL []:=by unfold NnL;trivial
theorem NnL.cons {p:Pt} {r:List Pt} (h:Nn p) (k:NnL r):NnL (p :: r):=by unfold NnL;exact ⟨h,k⟩
theorem NnL.snoc:∀ {l:List Pt} {p:Pt},NnL l→Nn p→NnL (l++[p])
 | [],_,_,h=>.cons h .nil
 | q :: r,_,hl,h=>by
  unfold NnL at hl
  exact .cons hl.1 (NnL.snoc hl.2 h)
theorem nn_mk {k t:By} {f e:Int} {ks:List Pt} (hk:k≠[]) (h:NnL ks):Nn (.mk k t f e ks):=by unfold Nn;exact ⟨hk,h⟩
section
variable {L:List TokP}
theorem nn_part {k t:By} {f:Int} {ks:List Pt} {j m:Nat} {p:Pt} (h:T.part L k t f ks j=.ok p m) (hk:k≠[]) (hs:NnL ks):Nn p:=by
 unfold T.part at h;cases h;exact nn_mk hk hs
theorem typed_nn:∀ (n i:Nat) {p:Pt} {j:Nat},typed L n i=.ok p j→Nn p
 | 0,_,_,_,h=>by cases h
 | n+1,i,p,j,h=>by
  unfold typed at h
  split at h
  ·obtain ⟨x,k,h2,h3⟩:=next_ok.1 h
   exact nn_part h3 (by decide) (.cons (typed_nn n _ h2) .nil)
  ·split at h
   ·obtain ⟨u,k,h2,h3⟩:=next_ok.1 h
    obtain ⟨x,m,h4,h5⟩:=next_ok.1 h3
    exact nn_part h5 (by decide) (.cons (typed_nn n _ h4) .nil)
   ·obtain ⟨s,k,h2,h3⟩:=next_ok.1 h
    exact nn_part h3 (by decide) .nil
theorem param_nn {n i j:Nat} {k:By} {p:Pt} (hk:k≠[]) (h:param L n k i=.ok p j):Nn p:=by
 unfold param at h
 obtain ⟨s,m,h2,h3⟩:=next_ok.1 h
 obtain ⟨x,o,h4,h5⟩:=next_ok.1 h3
 exact nn_part h5 hk (.cons (typed_nn n _ h4) .nil)
theorem params_nn (m:Nat):∀ (n i:Nat) (acc:List Pt) {l:List Pt} {j:Nat},params L m n i acc=.ok l j→NnL acc→NnL l
 | 0,_,_,_,_,h,_=>by cases h
 | n+1,i,acc,l,j,h,ha=>by
  unfold params at h
  obtain ⟨p,k,h2,h3⟩:=next_ok.1 h
  have hp:=param_nn (by decide) h2
  split at h3
  ·cases h3;exact ha.snoc hp
  ·obtain ⟨u,m',h4,h5⟩:=next_ok.1 h3
   exact params_nn m n m' _ h5 (ha.snoc hp)
theorem fields_nn (m:Nat):∀ (n i:Nat) (acc:List Pt) {l:List Pt} {j:Nat},fields L m n i acc=.ok l j→NnL acc→NnL l
 | 0,_,_,_,_,h,_=>by cases h
 | n+1,i,acc,l,j,h,ha=>by
  unfold fields at h
  split at h
  ·cases h;exact ha
  ·obtain ⟨p,k,h2,h3⟩:=next_ok.1 h
   have hp:=param_nn (by decide) h2
   split at h3
   ·cases h3
   ·exact fields_nn m n _ _ h3 (ha.snoc hp)
structure NnE (L:List TokP) (n:Nat):Prop where
 expr:∀ than i p j,expr L n than i=.ok p j→Nn p
 exprs:∀ than f a i p j,exprs L n than f a i=.ok p j→Nn a→Nn p
 prefixT:∀ i p j,prefixT L n i=.ok p j→Nn p
 tails:∀ f a i p j,tails L n f a i=.ok p j→Nn a→Nn p
 operand:∀ i p j,operand L n i=.ok p j→Nn p
 args:∀ i acc l j,args L n i acc=.ok l j→NnL acc→NnL l
theorem nnE:∀ n,NnE L n
 | 0=>⟨fun _ _ _ _ h=>by simp only [expr] at h;(cases h),fun _ _ _ _ _ _ h=>by simp only [exprs] at h;(cases h),fun _ _ _ h=>by simp only [prefixT] at h;(cases h),fun _ _ _ _ _ h=>by simp only [tails] at h;(cases h),fun _ _ _ h=>by simp only [operand] at h;(cases h),fun _ _ _ _ h=>by simp only [args] at h;(cases h)⟩
 | n+1=>by
  have ih:=nnE n
  refine ⟨fun than i p j h=>?_,fun than f a i p j h ha=>?_,fun i p j h=>?_,fun f a i p j h ha=>?_,fun i p j h=>?_,fun i acc l j h hacc=>?_⟩
  ·rw [expr] at h
   obtain ⟨a,k,h2,h3⟩:=next_ok.1 h
   exact ih.exprs _ _ _ _ _ _ h3 (ih.prefixT _ _ _ h2)
  ·rw [exprs] at h
   split at h
   ·obtain ⟨b,k,h2,h3⟩:=next_ok.1 h
    exact ih.exprs _ _ _ _ _ _ h3 (nn_mk (by decide) (.cons ha (.cons (ih.expr _ _ _ _ h2) .nil)))
   ·cases h;exact ha
  ·rw [prefixT] at h
   have un:∀ x:By,((prefixT L n (i+1)).next fun e j=>T.part L kUnary x (fromT L i) [e] j)=.ok p j→Nn p:=fun x h=>by
    obtain ⟨e,k,h2,h3⟩:=next_ok.1 h
    exact nn_part h3 (by decide) (.cons (ih.prefixT _ _ _ h2) .nil)
   repeat' split at h
   ·exact un _ h
   ·exact un _ h
   ·exact un _ h
   ·exact un _ h
   ·obtain ⟨a,k,h2,h3⟩:=next_ok.1 h
    exact ih.tails _ _ _ _ _ h3 (ih.operand _ _ _ h2)
  ·rw [tails] at h
   split at h
   ·obtain ⟨s,k,h2,h3⟩:=next_ok.1 h
    exact ih.tails _ _ _ _ _ h3 (nn_mk (by decide) (.cons ha .nil))
   ·split at h
    ·obtain ⟨e,k,h2,h3⟩:=next_ok.1 h
     obtain ⟨u,m,h5,h6⟩:=next_ok.1 h3
     exact ih.tails _ _ _ _ _ h6 (nn_mk (by decide) (.cons ha (.cons (ih.expr _ _ _ _ h2) .nil)))
    ·cases h;exact ha
  ·rw [operand] at h
   split at h
   ·exact nn_part h (by decide) .nil
   ·split at h
    ·exact nn_part h (by decide) .nil
    ·split at h
     ·obtain ⟨e,k,h2,h3⟩:=next_ok.1 h
      obtain ⟨u,m,h5,h6⟩:=next_ok.1 h3
      cases h6
      exact ih.expr _ _ _ _ h2
     ·obtain ⟨s,k,h2,h3⟩:=next_ok.1 h
      split at h3
      ·exact nn_part h3 (by decide) .nil
      ·split at h3
       ·obtain ⟨x,m,h5,h6⟩:=next_ok.1 h3
        obtain ⟨u,o,h7,h8⟩:=next_ok.1 h6
        exact nn_part h8 (by decide) (.cons (typed_nn n _ h5) .nil)
       ·split at h3
        ·obtain ⟨x,m,h5,h6⟩:=next_ok.1 h3
         obtain ⟨u,o,h7,h8⟩:=next_ok.1 h6
         obtain ⟨e,q,h9,h10⟩:=next_ok.1 h8
         obtain ⟨u2,r,h11,h12⟩:=next_ok.1 h10
         exact nn_part h12 (by decide) (.cons (typed_nn n _ h5) (.cons (ih.expr _ _ _ _ h9) .nil))
        ·split at h3
         ·exact nn_part h3 (by decide) .nil
         ·obtain ⟨l,m,h5,h6⟩:=next_ok.1 h3
          exact nn_part h6 (by decide) (ih.args _ _ _ _ h5 .nil)
  ·rw [args] at h
   obtain ⟨a,k,h2,h3⟩:=next_ok.1 h
   have ha:=hacc.snoc (ih.expr _ _ _ _ h2)
   split at h3
   ·cases h3;exact ha
   ·obtain ⟨u,m,h4,h5⟩:=next_ok.1 h3
    exact ih.args _ _ _ _ h5 ha
theorem variable_nn {n i j:Nat} {p:Pt} (h:variable' L n i=.ok p j):Nn p:=by
 unfold variable' at h
 obtain ⟨u,k,h2,h3⟩:=next_ok.1 h
 obtain ⟨s,m,h4,h5⟩:=next_ok.1 h3
 obtain ⟨x,o,h6,h7⟩:=next_ok.1 h5
 exact nn_part h7 (by decide) (.cons (typed_nn n _ h6) .nil)
structure NnS (L:List TokP) (n:Nat):Prop where
 block:∀ i p j,block L n i=.ok p j→Nn p
 stmts:∀ i acc l j,stmts L n i acc=.ok l j→NnL acc→NnL l
 branch:∀ i p j,branch L n i=.ok p j→Nn p
 stmt:∀ i p j,stmt L n i=.ok p j→Nn p
theorem nnS:∀ n,NnS L n
 | 0=>⟨fun _ _ _ h=>by simp only [block] at h;(cases h),fun _ _ _ _ h=>by simp only [stmts] at h;(cases h),fun _ _ _ h=>by simp only [branch] at h;(cases h),fun _ _ _ h=>by simp only [stmt] at h;(cases h)⟩
 | n+1=>by
  have ih:=nnS n
  have he:=nnE (L:=L) n
  refine ⟨fun i p j h=>?_,fun i acc l j h ha=>?_,fun i p j h=>?_,fun i p j h=>?_⟩
  ·rw [block] at h
   obtain ⟨u,k,h2,h3⟩:=next_ok.1 h
   obtain ⟨l,m,h4,h5⟩:=next_ok.1 h3
   obtain ⟨u2,o,h6,h7⟩:=next_ok.1 h5
   exact nn_part h7 (by decide) (ih.stmts _ _ _ _ h4 .nil)
  ·rw [stmts] at h
   split at h
   ·cases h;exact ha
   ·obtain ⟨p,k,h2,h3⟩:=next_ok.1 h
    split at h3
    ·cases h3
    ·exact ih.stmts _ _ _ _ h3 (ha.snoc (ih.stmt _ _ _ h2))
  ·rw [branch] at h
   obtain ⟨u,k,h2,h3⟩:=next_ok.1 h
   obtain ⟨e,m,h4,h5⟩:=next_ok.1 h3
   obtain ⟨b,o,h6,h7⟩:=next_ok.1 h5
   have h8:=he.expr _ _ _ _ h4
   have h9:=ih.block _ _ _ h6
   split at h7
   ·split at h7
    ·obtain ⟨x,q,h10,h11⟩:=next_ok.1 h7
     exact nn_part h11 (by decide) (.cons h8 (.cons h9 (.cons (ih.branch _ _ _ h10) .nil)))
    ·obtain ⟨x,q,h10,h11⟩:=next_ok.1 h7
     exact nn_part h11 (by decide) (.cons h8 (.cons h9 (.cons (ih.block _ _ _ h10) .nil)))
   ·exact nn_part h7 (by decide) (.cons h8 (.cons h9 .nil))
  ·rw [stmt] at h
   split at h
   ·exact variable_nn h
   split at h
   ·exact ih.branch _ _ _ h
   split at h
   ·exact ih.block _ _ _ h
   split at h
   ·obtain ⟨e,k,h2,h3⟩:=next_ok.1 h
    obtain ⟨b,m,h4,h5⟩:=next_ok.1 h3
    exact nn_part h5 (by decide) (.cons (he.expr _ _ _ _ h2) (.cons (ih.block _ _ _ h4) .nil))
   split at h
   ·split at h
    ·exact nn_part h (by decide) .nil
    ·obtain ⟨e,k,h2,h3⟩:=next_ok.1 h
     exact nn_part h3 (by decide) (.cons (he.expr _ _ _ _ h2) .nil)
   ·obtain ⟨a,k,h2,h3⟩:=next_ok.1 h
    have h6:=he.expr _ _ _ _ h2
    have two:∀ (kd:By),kd≠[]→((expr L n 0 (k+1)).next fun b m=>T.part L kd [] (fromT L i) [a,b] m)=.ok p j→Nn p:=fun kd hk h=>by
     obtain ⟨b,m,h4,h5⟩:=next_ok.1 h
     exact nn_part h5 hk (.cons h6 (.cons (he.expr _ _ _ _ h4) .nil))
    split at h3
    ·exact two _ (by decide) h3
    ·split at h3
     ·exact two _ (by decide) h3
     ·exact nn_part h3 (by decide) (.cons h6 .nil)
theorem all_nn {k:By} {l:List Pt} (hk:k≠[]) (h:NnL l):Nn (allP k l):=by
 cases l with
 | nil=>unfold allP;exact nn_mk hk h
 | cons p r=>obtain ⟨kk,t,f,e,ks⟩:=p;simp only [allP];exact nn_mk hk h
theorem fate_nn {p:Pt} (h:fate L=.part p):Nn p:=by
 have hd:∃ n i,decl L n=.ok p i:=by
  unfold fate at h
  split at h
  ·rename_i q i h1
   split at h
   ·cases h
   ·cases h;exact ⟨_,i,h1⟩
  ·cases h
 obtain ⟨n,i,h⟩:=hd
 unfold decl at h
 split at h
 ·unfold func' at h
  obtain ⟨u,k,h2,h3⟩:=next_ok.1 h
  obtain ⟨s,m,h4,h5⟩:=next_ok.1 h3
  obtain ⟨u2,o,h6,h7⟩:=next_ok.1 h5
  obtain ⟨ps,q,h8,h9⟩:=next_ok.1 h7
  obtain ⟨rs,v,h10,h11⟩:=next_ok.1 h9
  obtain ⟨b,w,h12,h13⟩:=next_ok.1 h11
  have hp:NnL ps:=by
   split at h8
   ·cases h8;exact .nil
   ·exact params_nn n n o [] h8 .nil
  have hr:NnL rs:=by
   split at h10
   ·cases h10;exact .nil
   ·obtain ⟨x,z,h14,h15⟩:=next_ok.1 h10
    cases h15
    exact .cons (typed_nn n _ h14) .nil
  exact nn_part h13 (by decide) (.cons (all_nn (by decide) hp) (.cons (all_nn (by decide) hr) (.cons ((nnS n).block _ _ _ h12) .nil)))
 ·split at h
  ·exact variable_nn h
  ·split at h
   ·unfold record at h
    obtain ⟨u,k,h2,h3⟩:=next_ok.1 h
    obtain ⟨s,m,h4,h5⟩:=next_ok.1 h3
    obtain ⟨u2,o,h6,h7⟩:=next_ok.1 h5
    obtain ⟨u3,q,h8,h9⟩:=next_ok.1 h7
    obtain ⟨l,v,h10,h11⟩:=next_ok.1 h9
    obtain ⟨u4,w,h12,h13⟩:=next_ok.1 h11
    exact nn_part h13 (by decide) (fields_nn n n _ [] h10 .nil)
   ·cases h
end
end Go.Proofs.YtojoahlpgmnbnaaGreatDoor.K
namespace Go.Proofs.YtojoahlpgmnbnaaGreatDoor.K
open Go.RowKit
open Go.Lib hiding intOf
open U S T
section
variable {W:World} {R X:Nat→Prop} (hX:∀ g off k,X g→k≠[]→W.cell? ⟨g,off,none⟩≠some (.string (bstr k)))
include hX
mutual
theorem kids_leave:∀ (p:Pt) (lv:Value),Nn p→KidsIn W R p lv→KidsIn W (fun g=>R g∧¬ X g) p lv
 | .mk k t f e ks,lv,hn,h=>by
  unfold Nn at hn
  obtain ⟨a,cap,h1,h0,h2⟩:=h
  refine ⟨a,cap,h1,h0,?_⟩
  rcases h2 with h2|⟨g,off,xs,h3,h4,h5,h6⟩
  ·exact .inl h2
  ·by_cases hk:ks=[]
   ·exact .inl hk
   ·refine .inr ⟨g,off,xs,h3,⟨h4,fun hx=>?_⟩,h5,parts_leave ks xs hn.2 h6⟩
    cases ks with
    | nil=>exact hk rfl
    | cons p r =>
     obtain ⟨lv',rest,rfl,_,_⟩:=h6
     obtain ⟨k',t',f',e',ks'⟩:=p
     have h7:=hn.2
     unfold NnL Nn at h7
     exact hX g off k' hx h7.1.1 (h5 0 _ rfl)
theorem parts_leave:∀ (l:List Pt) (xs:List Value),NnL l→PartsIn W R l xs→PartsIn W (fun g=>R g∧¬ X g) l xs
 | [],_,_,h=>h
 | p :: r,xs,hn,h=>by
  have _hX:=hX
  unfold NnL at hn
  obtain ⟨lv,rest,h1,h2,h3⟩:=h
  exact ⟨lv,rest,h1,kids_leave p lv hn.1 h2,parts_leave r rest hn.2 h3⟩
end
end
end Go.Proofs.YtojoahlpgmnbnaaGreatDoor.K
