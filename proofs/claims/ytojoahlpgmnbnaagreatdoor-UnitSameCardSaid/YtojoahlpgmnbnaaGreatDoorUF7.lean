/- What the claim needs of the texts KRest, KBetw, KSim, KSimE, KSimO, KSimS, KSimD. -/
import Derived.Test.YtojoahlpgmnbnaaGreatDoorUFOp
import Derived.Test.YtojoahlpgmnbnaaGreatDoorUF6
import Derived.Test.YtojoahlpgmnbnaaGreatDoorUF1
namespace Go.Proofs.YtojoahlpgmnbnaaGreatDoor.K
open Go.RowKit
open Go.Lib hiding intOf
open U S T
section
variable {d:Nat} {L:List TokP} {size:Nat} {lv:Value} {s:St} {O:Nat→Prop}
theorem wrap_some {k:By} {O O':List Open} (h:wrapO k O=some O'):∃ a r l p,O=a :: r∧a.kids=l++[p]∧O'=⟨k,[],a.kf,[p],0⟩ :: { a with kids:=l } :: r:=by
 cases O with
 | nil=>cases h
 | cons a r =>
  unfold wrapO at h
  dsimp only at h
  cases hk:a.kids.getLast? with
  | none=>rw [hk] at h;cases h
  | some p =>
   rw [hk] at h
   obtain ⟨ys,h1⟩:=List.getLast?_eq_some_iff.1 hk
   rw [h1,List.dropLast_concat] at h
   exact ⟨a,r,ys,p,rfl,h1,(Option.some.inj h).symm⟩
set_option maxHeartbeats 4000000 in
set_option maxRecDepth 20000 in
theorem g_result {W:World} (hM:Mem d L size lv s O W) (hs:Small L s) (hs1:s.opn.length<1000000) (hr:execM L size .result s≠.stuck) (ho:∃ a r,s.opn=a :: r):Calls Tryz.prog 121 #[ptr d] W (Does d L size lv s.i O W (execM L size .result s)):=by
 obtain ⟨a,r,ho⟩:=ho
 have hmf:=hmf
 simp only [execM] at hr ⊢
 cases h0:isP L size [123] s.i with
 | true =>
  rw [h0,if_pos rfl] at hr
  rw [if_pos rfl]
  have hi:¬ s.i=0:=fun h=>hr (by rw [if_pos h])
  rw [if_neg hi,ho]
  dsimp only
  go_enter Tryz.func121,Tryz.ntmps121
  go_wp2_with fail
  refine (begin_any hM hs.i kResult hs.opn).mono ?_
  rintro e v1 ⟨rfl,O1,hM1,hS1⟩
  dsimp only
  go_wp2_with fail
  have c2:=is_any hM1 hs.i [123]
  dsimp only at c2
  rw [h0] at c2
  refine c2.mono ?_
  rintro e v2 ⟨rfl,hb2⟩
  dsimp only
  have hM2:=hM1.below hb2
  go_wp2_with fail
  refine (g_fin hM2 ⟨hs.i,hs.len,hs.todo,by show s.opn.length+1≤_;omega,fun q hq=>by
   rcases List.mem_cons.1 hq with rfl|hq
   ·exact Nat.zero_le _
   ·exact hs.kids q hq⟩ ⟨kResult,[],(tok L size s.i).f,[],0⟩ a r (by show _ :: s.opn=_;rw [ho]) (by show 0<s.i;omega) (.mk kResult [] 0 0 []) rfl).mono ?_
  rintro e v3 ⟨rfl,O3,hM3,hS3⟩
  dsimp only
  (try go_wp2_with fail)
  first|go_end0|refine bodyPost_ret (results_none rfl _ _ _) rfl ?_
  exact ⟨rfl,O3,hM3,(hS1.trans (Stay.of_below hb2)).trans hS3⟩
 | false =>
  rw [if_neg (by decide)]
  go_enter Tryz.func121,Tryz.ntmps121
  go_wp2_with fail
  refine (begin_any hM hs.i kResult hs.opn).mono ?_
  rintro e v1 ⟨rfl,O1,hM1,hS1⟩
  dsimp only
  go_wp2_with fail
  have c2:=is_any hM1 hs.i [123]
  dsimp only at c2
  rw [h0] at c2
  refine c2.mono ?_
  rintro e v2 ⟨rfl,hb2⟩
  dsimp only
  have hM2:=hM1.below hb2
  go_wp2_with fail
  refine (then_lit hM2 [.m .typeOf,.m .fin] [.func (.func 136) #[ptr d] #[],.func (.func 123) #[ptr d] #[]] 2 rfl ⟨_,_,rfl,rfl,⟨_,_,rfl,rfl,rfl⟩⟩ (by decide) hs.todo).mono ?_
  rintro e v11 ⟨rfl,O11,hM11,hS11⟩
  dsimp only
  (try go_wp2_with fail)
  first|go_end0|refine bodyPost_ret (results_none rfl _ _ _) rfl ?_
  exact ⟨rfl,O11,hM11,((hS1.trans (Stay.of_below hb2)).trans hS11)⟩
set_option maxHeartbeats 4000000 in
set_option maxRecDepth 20000 in
theorem g_behind {W:World} (hM:Mem d L size lv s O W) (hs:Small L s) (hr:execM L size .behind s≠.stuck):Calls Tryz.prog 156 #[ptr d] W (Does d L size lv s.i O W (execM L size .behind s)):=by
 obtain ⟨tw,tf,te,y,hP,_,_,c1⟩:=next_txt hM hs.i
 have hmf:=hmf
 have hfl:=fun X=>fld1 (.int .i64 tw) (.string y) (.int .i64 tf) (.int .i64 te) X
 simp only [execM,hP] at hr ⊢
 clear hP
 obtain ⟨b0,h0⟩:∃ b,(y.toList==[46])=b:=⟨_,rfl⟩
 cases b0 with
 | true =>
  rw [if_pos h0] at hr
  rw [if_pos h0]
  cases hw:wrapO kField s.opn with
  | none=>rw [hw] at hr;exact absurd rfl hr
  | some O' =>
   obtain ⟨a,r,l,p,ho,hk,rfl⟩:=wrap_some hw
   clear hr hw
   go_enter Tryz.func156,Tryz.ntmps156
   go_wp2_with fail
   refine c1.mono ?_
   rintro e v0 ⟨rfl,hb0⟩
   dsimp only
   have hM0:=hM.below hb0
   go_wp2_with fail
   refine (g_wrap hM0 hs kField a r ho l p hk).mono ?_
   rintro e v1 ⟨rfl,O1,hM1,hS1⟩
   dsimp only
   go_wp2_with fail
   refine (word_make hM1 [46]).mono ?_
   rintro e v11 ⟨p11,q11,rfl,hp11,hq11,hb11⟩
   dsimp only
   have hM11:=hM1.below hb11
   go_wp2_with fail
   refine (then_lit hM11 [.word [46],.m .name,.m .fin,.m .behind] [.func (.func 131) #[] #[ptr p11,ptr q11],.func (.func 119) #[ptr d] #[],.func (.func 123) #[ptr d] #[],.func (.func 156) #[ptr d] #[]] 4 rfl ⟨_,_,rfl,⟨p11,q11,rfl,hp11,hq11⟩,⟨_,_,rfl,rfl,⟨_,_,rfl,rfl,⟨_,_,rfl,rfl,rfl⟩⟩⟩⟩ (by decide) hs.todo).mono ?_
   rintro e v12 ⟨rfl,O12,hM12,hS12⟩
   dsimp only
   (try go_wp2_with fail)
   first|go_end0|refine bodyPost_ret (results_none rfl _ _ _) rfl ?_
   exact ⟨rfl,O12,hM12,((((Stay.of_below hb0).trans hS1).trans (Stay.of_below hb11)).trans hS12)⟩
 | false =>
 rw [if_neg (show ¬ (y.toList==[46])=true by rw [h0];decide)] at hr
 rw [if_neg (show ¬ (y.toList==[46])=true by rw [h0];decide)]
 obtain ⟨b1,h1⟩:∃ b,(y.toList==[91])=b:=⟨_,rfl⟩
 cases b1 with
 | true =>
  rw [if_pos h1] at hr
  rw [if_pos h1]
  cases hw:wrapO kIndex s.opn with
  | none=>rw [hw] at hr;exact absurd rfl hr
  | some O' =>
   obtain ⟨a,r,l,p,ho,hk,rfl⟩:=wrap_some hw
   clear hr hw
   go_enter Tryz.func156,Tryz.ntmps156
   go_wp2_with fail
   refine c1.mono ?_
   rintro e v0 ⟨rfl,hb0⟩
   dsimp only
   have hM0:=hM.below hb0
   go_wp2_with fail
   refine (g_wrap hM0 hs kIndex a r ho l p hk).mono ?_
   rintro e v1 ⟨rfl,O1,hM1,hS1⟩
   dsimp only
   go_wp2_with fail
   refine (word_make hM1 [91]).mono ?_
   rintro e v11 ⟨p11,q11,rfl,hp11,hq11,hb11⟩
   dsimp only
   have hM11:=hM1.below hb11
   go_wp2_with fail
   refine (word_make hM11 [93]).mono ?_
   rintro e v12 ⟨p12,q12,rfl,hp12,hq12,hb12⟩
   dsimp only
   replace hp11:=hp11.below hb12
   replace hq11:=hq11.below hb12
   have hM12:=hM11.below hb12
   go_wp2_with fail
   refine (then_lit hM12 [.word [91],.m .expr,.word [93],.m .fin,.m .behind] [.func (.func 131) #[] #[ptr p11,ptr q11],.func (.func 146) #[ptr d] #[],.func (.func 131) #[] #[ptr p12,ptr q12],.func (.func 123) #[ptr d] #[],.func (.func 156) #[ptr d] #[]] 5 rfl ⟨_,_,rfl,⟨p11,q11,rfl,hp11,hq11⟩,⟨_,_,rfl,rfl,⟨_,_,rfl,⟨p12,q12,rfl,hp12,hq12⟩,⟨_,_,rfl,rfl,⟨_,_,rfl,rfl,rfl⟩⟩⟩⟩⟩ (by decide) hs.todo).mono ?_
   rintro e v13 ⟨rfl,O13,hM13,hS13⟩
   dsimp only
   (try go_wp2_with fail)
   first|go_end0|refine bodyPost_ret (results_none rfl _ _ _) rfl ?_
   exact ⟨rfl,O13,hM13,(((((Stay.of_below hb0).trans hS1).trans (Stay.of_below hb11)).trans (Stay.of_below hb12)).trans hS13)⟩
 | false =>
 rw [if_neg (show ¬ (y.toList==[91])=true by rw [h1];decide)]
 clear hr
 go_enter Tryz.func156,Tryz.ntmps156
 go_wp2_with fail
 refine c1.mono ?_
 rintro e v0 ⟨rfl,hb0⟩
 dsimp only
 have hM0:=hM.below hb0
 go_wp2_with fail
 first|go_end0|refine bodyPost_ret (results_none rfl _ _ _) rfl ?_
 exact ⟨rfl,O,hM0,.of_below hb0⟩
end
end Go.Proofs.YtojoahlpgmnbnaaGreatDoor.K
namespace Go.Proofs.YtojoahlpgmnbnaaGreatDoor.K
open Go.RowKit
open Go.Lib hiding intOf
open U S T
section
variable {d:Nat} {L:List TokP} {size:Nat} {lv:Value} {s:St} {O:Nat→Prop}
def opnLen (d:Nat) (W:World):Nat:=match W.cell? ⟨d,3,none⟩ with
 | some (.slice _ n _)=>n
 | _=>0
theorem opn_len {W:World} (h:Mem d L size lv s O W):opnLen d W=s.opn.length:=by
 obtain ⟨tv,ov,bs,vs,xs,h⟩:=h
 obtain ⟨a,c,rfl⟩:=owns_len h.opnR
 have hb:=h.blk
 unfold opnLen
 simp [World.cell?,hb]
theorem settle_or {e σ:Int} {C O':List Open} (h:settleO e σ C=some O'):∃ o r,C=o :: r ∧
  ((¬ (o.k=kBinary∧σ≤strP o.t)∧O'=o :: r)∨((o.k=kBinary∧σ≤strP o.t)∧∃ a r',r=a :: r'∧settleO e σ (a.add (.mk o.k o.t o.f e o.kids) o.f :: r')=some O')):=by
 cases C with
 | nil=>cases h
 | cons o r =>
  refine ⟨o,r,rfl,?_⟩
  cases r with
  | nil =>
   by_cases hc:o.k=kBinary∧σ≤strP o.t
   ·simp [settleO,settle,hc] at h
   ·simp only [settleO,settle,hc,if_false] at h
    exact .inl ⟨hc,(Option.some.inj h).symm⟩
  | cons a r' =>
   by_cases hc:o.k=kBinary∧σ≤strP o.t
   ·refine .inr ⟨hc,a,r',rfl,?_⟩
    unfold settleO at h ⊢
    dsimp only at h ⊢
    simp only [settle] at h
    rw [if_pos hc] at h
    exact h
   ·unfold settleO at h
    dsimp only at h
    simp only [settle] at h
    rw [if_neg hc] at h
    exact .inl ⟨hc,(Option.some.inj h).symm⟩
set_option maxHeartbeats 8000000 in
set_option maxRecDepth 20000 in
theorem g_between {W:World} (hM:Mem d L size lv s O W) (hs:Small L s) (hG:PTab O W) (hk1:∀ o∈s.opn,o.kids.length<1000000) (hr:execM L size .between s≠.stuck):Calls Tryz.prog 152 #[ptr d] W (Does d L size lv s.i O W (execM L size .between s)):=by
 obtain ⟨tw,tf,te,y,_,_,hy,c1⟩:=next_txt hM hs.i
 have hmf:=hmf
 have hfl:=fun X=>fld1 (.int .i64 tw) (.string y) (.int .i64 tf) (.int .i64 te) X
 simp only [execM,betweenM] at hr ⊢
 have hi:¬ s.i=0:=fun h=>hr (by rw [if_pos h])
 rw [if_neg hi] at hr ⊢
 rw [hy] at hr ⊢
 obtain ⟨en,hen⟩:∃ e,(tok L size (s.i - 1)).e=e:=⟨_,rfl⟩
 obtain ⟨σ,hσ⟩:∃ e,strP y.toList=e:=⟨_,rfl⟩
 rw [hen,hσ] at hr ⊢
 cases hset:settleO en σ s.opn with
 | none=>rw [hset] at hr;exact absurd rfl hr
 | some C =>
  rw [hset] at hr
  dsimp only at hr ⊢
  obtain ⟨R,hR⟩:∃ R,(if 0<σ then ofOpt s.i ([.m .text,.m .pre,.m .between]++s.todo) (wrapO kBinary C) else Res.go ⟨s.i,s.todo,C⟩)=R:=⟨_,rfl⟩
  rw [hR] at hr ⊢
  have HR:=hid hR
  have HSet:=hid hset
  have Hen:=hid hen
  have HM:=hid hM
  have HG:=hid hG
  have HK1:=hid hk1
  have cS:=fun X (h:CellsAt X 2 0 tabS)=>str_any y X h
  rw [hσ] at cS
  clear hset hR hen hM hG hk1 hy hσ
  go_enter Tryz.func152,Tryz.ntmps152
  go_wp2_with fail
  refine c1.mono ?_
  rintro e v0 ⟨rfl,hb0⟩
  dsimp only
  have HG0:=hid (HG.out.stay (.of_below hb0))
  have HM0:=hid (HM.out.below hb0)
  have HS0:=hid (Stay.of_below (O:=O) hb0)
  clear hb0 c1
  go_wp2_with fail
  refine (cS _ HG0.out.2).mono ?_
  rintro e v1 ⟨rfl,hb1⟩
  dsimp only
  have HG1:=hid (HG0.out.stay (.of_below hb1))
  have HM1:=hid (HM0.out.below hb1)
  have HS1:=hid (HS0.out.trans (Stay.of_below hb1))
  clear hb1 cS HG0 HM0 HS0
  go_wp2_with fail
  go_loopw [] (fun wr=>∃ (X:List Open) (O':Nat→Prop),Hid (settleO en σ X=some C)∧Hid (Mem d L size lv { s with opn:=X } O' wr)∧Hid (Stay O O' W wr)∧Hid (PTab O' wr)∧Hid (X.length≤s.opn.length)∧Hid (∀ o r,X=o :: r→o.kids.length≤1000000∧∀ q∈r,q.kids.length<1000000)) (fun wr=>opnLen d wr)
  case atStart=>exact ⟨s.opn,O,HSet,HM1,HS1,HG1,hid (Nat.le_refl _),hid (fun o r h=>⟨Nat.le_of_lt (HK1.out o (by rw [h];exact List.mem_cons_self)),fun q hq=>HK1.out q (by rw [h];exact List.mem_cons_of_mem _ hq)⟩)⟩
  case round =>
   obtain ⟨X,O',HX,HMX,HSX,HGX,HL,HKX⟩:=hrel
   have hlen:=hid (opn_len HMX.out)
   obtain ⟨o,r,rfl,hor⟩:=settle_or HX.out
   obtain ⟨tv,ov,bs,us,xs,hXX⟩:=id HMX.out
   obtain ⟨g,c,kv,ks,us1,bs1,hT⟩:=top_of hXX (o:=o) (r:=r) rfl
   have hrl:r.length≤1000000:=by have h1:=HL.out;have h2:=hs.opn;rw [List.length_cons] at h1;omega
   have cT:=fun (X:World) (hb:Below wr.heap.size wr X)=>top_any hXX hT hrl hb
   have k0:=hT.cell 0 _ rfl
   have k1:=hT.cell 1 _ rfl
   rw [Nat.add_zero] at k0
   obtain ⟨ko,hko,hkt⟩:=bstr_str o.k
   obtain ⟨tk,hto,htt⟩:=bstr_str o.t
   rw [hko] at k0
   rw [hto] at k1
   have hgl:=hT.lt
   have HT:=hid hT
   have HOR:=hid hor
   clear hor hXX hT hko hto HM1 HS1 HG1
   by_cases hbin:o.k=kBinary
   ·have h1:(ko.toList==[98,105,110,97,114,121])=true:=by rw [← hkt,hbin];rfl
    have cS2:=fun X (h:CellsAt X 2 0 tabS)=>str_any tk X h
    rw [← htt] at cS2
    obtain ⟨σ2,hσ2⟩:∃ e,strP o.t=e:=⟨_,rfl⟩
    rw [hσ2] at cS2
    have HC2:=hid hσ2
    have HB:=hid hbin
    clear hkt htt hσ2 hbin
    by_cases hge:σ≤σ2
    ·have hd1:decide (σ≤σ2)=true:=by simpa using hge
     go_wp2_with fail
     refine (cT wr (Below.refl _ _)).mono ?_
     rintro e w1 ⟨rfl,m1,rfl⟩
     dsimp only
     replace k0:(wr.drewN m1).cell? _=_:=k0
     replace k1:(wr.drewN m1).cell? _=_:=k1
     have HBd:=hid (drewB' wr m1)
     have cT1:=cT _ HBd.out
     generalize wr.drewN m1=W1 at k0 k1 HBd cT1 ⊢
     go_wp2_with fail
     refine cT1.mono ?_
     rintro e w2 ⟨rfl,m2,rfl⟩
     dsimp only
     replace k1:(W1.drewN m2).cell? _=_:=k1
     have HBd2:Hid (Below wr.heap.size wr (W1.drewN m2)):=hid (HBd.out.trans ⟨rfl,rfl,rfl,Nat.le_refl _,fun _ _=>rfl⟩)
     generalize W1.drewN m2=W2 at k1 HBd2 ⊢
     have HG2:=hid (HGX.out.stay (.of_below HBd2.out))
     clear k0 cT cT1 HBd
     go_wp2_with fail
     refine (cS2 _ HG2.out.2).mono ?_
     rintro e w3 ⟨rfl,hb3⟩
     dsimp only
     have HBd3:=hid (HBd2.out.trans (hb3.mono HBd2.out.size))
     clear hb3 k1 cS2
     obtain ⟨_,a,r',rfl,hset'⟩:=HOR.out.resolve_left (fun h=>h.1 ⟨HB.out,by rw [HC2.out];exact hge⟩)
     go_wp2_with fail
     refine (g_fin (HMX.out.below HBd3.out) ⟨hs.i,hs.len,hs.todo,Nat.le_trans HL.out hs.opn,fun q hq=>by
      have h:=HKX.out o (a :: r') rfl
      rcases List.mem_cons.1 hq with rfl|hq
      ·exact h.1
      ·exact Nat.le_of_lt (h.2 q hq)⟩ o a r' rfl (by show 0<s.i;omega) (.mk o.k o.t o.f en o.kids) (by
       show o.close (tok L size (s.i - 1)).e=_
       rw [Hen.out]
       unfold Open.close
       rw [if_neg (by rw [HB.out];decide),if_neg (by rw [HB.out];decide)])).mono ?_
     rintro e w4 ⟨rfl,O4,hM4,hS4⟩
     dsimp only
     have HM4:=hid hM4
     have HS4:=hid (((HSX.out.trans (Stay.of_below HBd3.out)).trans hS4))
     have HG4:=hid ((HGX.out.stay (.of_below HBd3.out)).stay hS4)
     clear hM4 hS4
     go_wp2_with fail
     go_roundw
     case rel=>exact ⟨a.add (.mk o.k o.t o.f en o.kids) o.f :: r',O4,hid hset',HM4,HS4,HG4,hid (by have:=HL.out;simp only [List.length_cons] at this ⊢;omega),hid (fun q r2 hq=>by
      have h:=(HKX.out o (a :: r') rfl).2
      cases hq
      exact ⟨by show (a.kids++[_]).length≤_;rw [List.length_append];have:=h a List.mem_cons_self;simp;omega,fun q hq=>h q (List.mem_cons_of_mem _ hq)⟩)⟩
     case measure=>rw [hlen.out,opn_len HM4.out];show r'.length+1<r'.length+1+1;omega
    ·have hd1:decide (σ≤σ2)=false:=by simpa using hge
     go_wp2_with fail
     refine (cT wr (Below.refl _ _)).mono ?_
     rintro e w1 ⟨rfl,m1,rfl⟩
     dsimp only
     replace k0:(wr.drewN m1).cell? _=_:=k0
     replace k1:(wr.drewN m1).cell? _=_:=k1
     have HBd:=hid (drewB' wr m1)
     have cT1:=cT _ HBd.out
     generalize wr.drewN m1=W1 at k0 k1 HBd cT1 ⊢
     go_wp2_with fail
     refine cT1.mono ?_
     rintro e w2 ⟨rfl,m2,rfl⟩
     dsimp only
     replace k1:(W1.drewN m2).cell? _=_:=k1
     have HBd2:Hid (Below wr.heap.size wr (W1.drewN m2)):=hid (HBd.out.trans ⟨rfl,rfl,rfl,Nat.le_refl _,fun _ _=>rfl⟩)
     generalize W1.drewN m2=W2 at k1 HBd2 ⊢
     have HG2:=hid (HGX.out.stay (.of_below HBd2.out))
     clear k0 cT cT1 HBd
     go_wp2_with fail
     refine (cS2 _ HG2.out.2).mono ?_
     rintro e w3 ⟨rfl,hb3⟩
     dsimp only
     have HBd3:=hid (HBd2.out.trans (hb3.mono HBd2.out.size))
     clear hb3 k1 cS2
     obtain ⟨_,rfl⟩:_∧C=o :: r:=by
      rcases HOR.out with h|h
      ·exact ⟨h.1,h.2⟩
      ·exact absurd h.1.2 (by rw [HC2.out];omega)
     have HM5:=hid (HMX.out.below HBd3.out)
     have HS5:=hid (HSX.out.trans (Stay.of_below HBd3.out))
     have hRR:=HR.out
     by_cases hpos:0<σ
     ·rw [if_pos hpos] at hRR
      have hd2:decide (0<σ)=true:=by simpa using hpos
      cases hw:wrapO kBinary (o :: r) with
      | none=>rw [hw] at hRR;exact absurd hRR.symm hr
      | some O5 =>
       rw [hw] at hRR
       obtain ⟨a,r2,l,p,ho,hk,rfl⟩:=wrap_some hw
       cases ho
       obtain rfl:=hRR
       clear hw hr HR
       go_wp2_with fail
       refine (g_wrap HM5.out ⟨hs.i,hs.len,hs.todo,Nat.le_trans HL.out hs.opn,fun q hq=>by
        have h:=HKX.out o r rfl
        rcases List.mem_cons.1 hq with rfl|hq
        ·exact h.1
        ·exact Nat.le_of_lt (h.2 q hq)⟩ kBinary o r rfl l p hk).mono ?_
       rintro e v5 ⟨rfl,O5,hM6,hS6⟩
       dsimp only
       go_wp2_with fail
       refine (then_lit hM6 [.m .text,.m .pre,.m .between] [.func (.func 154) #[ptr d] #[],.func (.func 151) #[ptr d] #[],.func (.func 152) #[ptr d] #[]] 3 rfl ⟨_,_,rfl,rfl,⟨_,_,rfl,rfl,⟨_,_,rfl,rfl,rfl⟩⟩⟩ (by decide) hs.todo).mono ?_
       rintro e v21 ⟨rfl,O21,hM21,hS21⟩
       dsimp only
       (try go_wp2_with fail)
       first|go_end0|refine bodyPost_ret (results_none rfl _ _ _) rfl ?_
       exact ⟨rfl,O21,hM21,((HS5.out.trans hS6).trans hS21)⟩
     ·rw [if_neg hpos] at hRR
      have hd2:decide (0<σ)=false:=by simpa using hpos
      obtain rfl:=hRR
      clear hr HR
      go_wp2_with fail
      first|go_end0|refine bodyPost_ret (results_none rfl _ _ _) rfl ?_
      exact ⟨rfl,O',HM5.out,HS5.out⟩
   ·have h1:(ko.toList==[98,105,110,97,114,121])=false:=by rw [← hkt];exact beq_eq_false_iff_ne.2 hbin
    obtain ⟨_,rfl⟩:_∧C=o :: r:=by
     rcases HOR.out with h|h
     ·exact ⟨h.1,h.2⟩
     ·exact absurd h.1.1 hbin
    clear hkt htt hbin
    go_wp2_with fail
    refine (cT wr (Below.refl _ _)).mono ?_
    rintro e w1 ⟨rfl,m1,rfl⟩
    dsimp only
    replace k0:(wr.drewN m1).cell? _=_:=k0
    have HBd3:=hid (drewB' wr m1)
    clear k1 cT
    generalize wr.drewN m1=w3 at k0 HBd3 ⊢
    have HM5:=hid (HMX.out.below HBd3.out)
    have HS5:=hid (HSX.out.trans (Stay.of_below HBd3.out))
    have hRR:=HR.out
    by_cases hpos:0<σ
    ·rw [if_pos hpos] at hRR
     have hd2:decide (0<σ)=true:=by simpa using hpos
     cases hw:wrapO kBinary (o :: r) with
     | none=>rw [hw] at hRR;exact absurd hRR.symm hr
     | some O5 =>
      rw [hw] at hRR
      obtain ⟨a,r2,l,p,ho,hk,rfl⟩:=wrap_some hw
      cases ho
      obtain rfl:=hRR
      clear hw hr HR
      go_wp2_with fail
      refine (g_wrap HM5.out ⟨hs.i,hs.len,hs.todo,Nat.le_trans HL.out hs.opn,fun q hq=>by
       have h:=HKX.out o r rfl
       rcases List.mem_cons.1 hq with rfl|hq
       ·exact h.1
       ·exact Nat.le_of_lt (h.2 q hq)⟩ kBinary o r rfl l p hk).mono ?_
      rintro e v5 ⟨rfl,O5,hM6,hS6⟩
      dsimp only
      go_wp2_with fail
      refine (then_lit hM6 [.m .text,.m .pre,.m .between] [.func (.func 154) #[ptr d] #[],.func (.func 151) #[ptr d] #[],.func (.func 152) #[ptr d] #[]] 3 rfl ⟨_,_,rfl,rfl,⟨_,_,rfl,rfl,⟨_,_,rfl,rfl,rfl⟩⟩⟩ (by decide) hs.todo).mono ?_
      rintro e v21 ⟨rfl,O21,hM21,hS21⟩
      dsimp only
      (try go_wp2_with fail)
      first|go_end0|refine bodyPost_ret (results_none rfl _ _ _) rfl ?_
      exact ⟨rfl,O21,hM21,((HS5.out.trans hS6).trans hS21)⟩
    ·rw [if_neg hpos] at hRR
     have hd2:decide (0<σ)=false:=by simpa using hpos
     obtain rfl:=hRR
     clear hr HR
     go_wp2_with fail
     first|go_end0|refine bodyPost_ret (results_none rfl _ _ _) rfl ?_
     exact ⟨rfl,O',HM5.out,HS5.out⟩
end
end Go.Proofs.YtojoahlpgmnbnaaGreatDoor.K
namespace Go.Proofs.YtojoahlpgmnbnaaGreatDoor.K
open Go.Lib Go.Proofs.YtojoahlpgmnbnaaGreatDoor.U Go.Proofs.YtojoahlpgmnbnaaGreatDoor.S Go.Proofs.YtojoahlpgmnbnaaGreatDoor.T
section
variable (L:List TokP) (size:Nat)
def To (c:Int) (s s':St):Prop:=∃ n:Nat,(n:Int)+100*s.i≤100*s'.i+c∧Goes L size n s s'
def Fl (c:Int) (s:St) (j:Nat):Prop:=∃ n:Nat,(n:Int)+100*s.i≤100*j+c∧Falls L size n s j
def tf (i:Nat):Int:=(tok L size i).f
end
section
variable {L:List TokP} {size:Nat}
theorem To.one {s s1:St} (h:stepS L size s=.go s1):To L size (1+100*(s.i:Int) - 100*s1.i) s s1:=⟨1,by omega,.step h (.refl _ _)⟩
theorem To.trans {c d:Int} {a b e:St} (h:To L size c a b) (k:To L size d b e):To L size (c+d) a e:=by
 obtain ⟨n,h1,h2⟩:=h
 obtain ⟨m,k1,k2⟩:=k
 exact ⟨n+m,by omega,h2.trans k2⟩
theorem To.fl {c d:Int} {a b:St} {j:Nat} (h:To L size c a b) (k:Fl L size d b j):Fl L size (c+d) a j:=by
 obtain ⟨n,h1,h2⟩:=h
 obtain ⟨m,k1,k2⟩:=k
 exact ⟨n+m,by omega,h2.falls k2⟩
theorem To.mono {c d:Int} {a b:St} (h:To L size c a b) (hd:c≤d):To L size d a b:=by
 obtain ⟨n,h1,h2⟩:=h
 exact ⟨n,by omega,h2⟩
theorem Fl.mono {c d:Int} {a:St} {j:Nat} (h:Fl L size c a j) (hd:c≤d):Fl L size d a j:=by
 obtain ⟨n,h1,h2⟩:=h
 exact ⟨n,by omega,h2⟩
theorem Fl.now {s:St} (h:stepS L size s=.wrong):Fl L size 0 s s.i:=⟨0,by omega,.now h 0⟩
theorem To.cons {c d:Int} {s s1 s2:St} (h:stepS L size s=.go s1) (k:To L size c s1 s2) (hd:c+1+100*(s.i:Int) - 100*s1.i≤d):To L size d s s2:=((To.one h).trans k).mono (by omega)
theorem Fl.cons {c d:Int} {s s1:St} {j:Nat} (h:stepS L size s=.go s1) (k:Fl L size c s1 j) (hd:c+1+100*(s.i:Int) - 100*s1.i≤d):Fl L size d s j:=((To.one h).fl k).mono (by omega)
theorem To.last {d:Int} {s s1:St} (h:stepS L size s=.go s1) (hd:1+100*(s.i:Int) - 100*s1.i≤d):To L size d s s1:=(To.one h).mono hd
theorem To.stay {d:Int} {s:St} (hd:0≤d):To L size d s s:=⟨0,by omega,.refl _ _⟩
theorem isT_lt {x:By} {i:Nat} (h:isT L x i=true):i<L.length:=by
 by_cases h1:i<L.length
 ·exact h1
 ·unfold isT at h;rw [List.getElem?_eq_none (by omega)] at h;cases h
theorem comesT_lt {x:Int} {i:Nat} (h:comesT L x i=true):i<L.length:=by
 by_cases h1:i<L.length
 ·exact h1
 ·unfold comesT at h;rw [List.getElem?_eq_none (by omega)] at h;cases h
theorem tf_from {i:Nat} (h:i<L.length):tf L size i=fromT L i:=by unfold tf fromT;rw [tok_in size h,List.getElem?_eq_getElem h]
theorem te_to {j:Nat} (h0:0<j) (h:j≤L.length):(tok L size (j - 1)).e=toT L j:=by
 unfold toT
 rw [tok_in size (by omega),List.getElem?_eq_getElem (by omega),if_neg (by omega)]
theorem text_tok {i:Nat} (h:i<L.length):(tok L size i).t=textT L i:=by unfold textT;rw [tok_in size h,List.getElem?_eq_getElem h]
end
def plainK (kd:By):Bool:=!(kd==kBr)&&!(kd==kParams)&&!(kd==kResult)
theorem plainK_iff {kd:By} (h:plainK kd=true):¬ kd=kBr∧¬ (kd=kParams∨kd=kResult):=by
 unfold plainK at h
 simp only [Bool.and_eq_true,Bool.not_eq_true',beq_eq_false_iff_ne] at h
 exact ⟨h.1.1,fun e=>e.elim h.1.2 h.2⟩
section
variable {L:List TokP} (size:Nat) (hL:∀ t∈L,Fine t)
include hL
theorem st_word {x:By} (hx:x∈special) {i:Nat} (R:List Stp) (O:List Open) (h:isT L x i=true):stepS L size ⟨i,.word x :: R,O⟩=.go ⟨i+1,R,O⟩:=by
 show exec L size (.word x) ⟨i,R,O⟩=_
 simp only [exec]
 rw [isP_is size hL hx,h,if_pos rfl]
theorem st_word_bad {x:By} (hx:x∈special) {i:Nat} (R:List Stp) (O:List Open) (h:isT L x i=false):stepS L size ⟨i,.word x :: R,O⟩=.wrong:=by
 show exec L size (.word x) ⟨i,R,O⟩=_
 simp only [exec]
 rw [isP_is size hL hx,h];rfl
theorem st_name {i:Nat} (R:List Stp) (o:Open) (O:List Open) (h:comesT L 0 i=true):stepS L size ⟨i,.m .name :: R,o :: O⟩=.go ⟨i+1,R,{ o with t:=textT L i } :: O⟩:=by
 show execM L size .name ⟨i,R,o :: O⟩=_
 simp only [execM]
 rw [isW_is size hL (by decide),h,if_pos rfl,text_tok (comesT_lt h)];rfl
theorem st_name_bad {i:Nat} (R:List Stp) (O:List Open) (h:comesT L 0 i=false):stepS L size ⟨i,.m .name :: R,O⟩=.wrong:=by
 show execM L size .name ⟨i,R,O⟩=_
 simp only [execM]
 rw [isW_is size hL (by decide),h];rfl
omit hL in
theorem st_fin {j:Nat} (R:List Stp) (kd t:By) (f kf:Int) (ks:List Pt) (a:Open) (O:List Open) (h1:plainK kd=true) (h0:0<j) (h:j≤L.length) :
  stepS L size ⟨j,.m .fin :: R,⟨kd,t,f,ks,kf⟩ :: a :: O⟩=.go ⟨j,R,a.add (.mk kd t f (toT L j) ks) f :: O⟩:=by
 show finM L size ⟨j,R,⟨kd,t,f,ks,kf⟩ :: a :: O⟩=_
 obtain ⟨h2,h3⟩:=plainK_iff h1
 unfold finM
 dsimp only
 rw [if_neg (by omega),te_to h0 h]
 simp only [closeO,Open.close,h2,h3,if_false];rfl
omit hL in
theorem st_text {i:Nat} (R:List Stp) (o:Open) (O:List Open) (h:i<L.length):stepS L size ⟨i,.m .text :: R,o :: O⟩=.go ⟨i+1,R,{ o with t:=textT L i } :: O⟩:=by
 show execM L size .text ⟨i,R,o :: O⟩=_
 simp only [execM]
 rw [if_pos h,text_tok h];rfl
def Adds (L:List TokP) (size:Nat) (a b:Int) (x:List Stp) (i:Nat) (o:Out Pt):Prop:=∀ (T:Open) (O:List Open) (rest:List Stp),match o with
 | .ok p j=>j≤L.length∧i<j∧To L size (-a) ⟨i,x++rest,T :: O⟩ ⟨j,rest,T.add p (tf L size i) :: O⟩
 | .bad j=>Fl L size b ⟨i,x++rest,T :: O⟩ j
omit hL in
theorem adds_ok {a b:Int} {x:List Stp} {i j:Nat} {o:Out Pt} {p:Pt} (h:Adds L size a b x i o) (ho:o=.ok p j) (T:Open) (O:List Open) (rest:List Stp) :
  j≤L.length∧i<j∧To L size (-a) ⟨i,x++rest,T :: O⟩ ⟨j,rest,T.add p (tf L size i) :: O⟩:=by subst ho;exact h T O rest
omit hL in
theorem adds_bad {a b:Int} {x:List Stp} {i j:Nat} {o:Out Pt} (h:Adds L size a b x i o) (ho:o=.bad j) (T:Open) (O:List Open) (rest:List Stp) :
  Fl L size b ⟨i,x++rest,T :: O⟩ j:=by subst ho;exact h T O rest
theorem st_type {i:Nat} (R:List Stp) (O:List Open):stepS L size ⟨i,.m .typeOf :: R,O⟩ =
  if isT L [42] i then .go ⟨i,.word [42] :: .m .typeOf :: .m .fin :: R,⟨kStar,[],tf L size i,[],0⟩ :: O⟩
  else if isT L [91] i then .go ⟨i,.word [91] :: .word [93] :: .m .typeOf :: .m .fin :: R,⟨kSlice,[],tf L size i,[],0⟩ :: O⟩
  else .go ⟨i,.m .name :: .m .fin :: R,⟨kName,[],tf L size i,[],0⟩ :: O⟩:=by
 show execM L size .typeOf ⟨i,R,O⟩=_
 simp only [execM]
 rw [isP_is size hL (by decide),isP_is size hL (by decide)];rfl
theorem typed_sim:∀ (n i:Nat),2*(L.length - i)+1≤n→i≤L.length→Adds L size 60 10 [.m .typeOf] i (typed L n i)
 | 0,i,hn,_=>by omega
 | n+1,i,hn,hi=>by
  intro T O rest
  have h0:=st_type size hL (i:=i) rest (T :: O)
  simp only [typed]
  cases h1:isT L [42] i with
  | true =>
   have hlt:=isT_lt h1
   rw [h1,if_pos rfl] at h0
   rw [if_pos rfl]
   have hw:=st_word size hL (by decide) (.m .typeOf :: .m .fin :: rest) (⟨kStar,[],tf L size i,[],0⟩ :: T :: O) h1
   cases h2:typed L n (i+1) with
   | ok p j =>
    obtain ⟨hj,hij,hr⟩:=adds_ok size (typed_sim n (i+1) (by omega) hlt) h2 ⟨kStar,[],tf L size i,[],0⟩ (T :: O) (.m .fin :: rest)
    refine ⟨hj,by omega,?_⟩
    have hf:=st_fin size rest kStar [] (tf L size i) (tf L size (i+1)) [p] T O (by decide) (by omega) hj
    rw [tf_from hlt]
    rw [tf_from hlt] at h0 hw hr hf
    exact .cons h0 (.cons hw (hr.trans (.one hf)) (Int.le_refl _)) (by dsimp only;omega)
   | bad j =>
    have hr:=adds_bad size (typed_sim n (i+1) (by omega) hlt) h2 ⟨kStar,[],tf L size i,[],0⟩ (T :: O) (.m .fin :: rest)
    exact .cons h0 (.cons hw hr (Int.le_refl _)) (by dsimp only;omega)
  | false =>
   rw [h1,if_neg (by decide)] at h0
   rw [if_neg (by decide)]
   cases h3:isT L [91] i with
   | true =>
    have hlt:=isT_lt h3
    rw [h3,if_pos rfl] at h0
    rw [if_pos rfl]
    have hw:=st_word size hL (by decide) (.word [93] :: .m .typeOf :: .m .fin :: rest) (⟨kSlice,[],tf L size i,[],0⟩ :: T :: O) h3
    unfold mustT
    cases h4:isT L [93] (i+1) with
    | true =>
     have hlt4:=isT_lt h4
     have hw4:=st_word size hL (by decide) (.m .typeOf :: .m .fin :: rest) (⟨kSlice,[],tf L size i,[],0⟩ :: T :: O) h4
     rw [if_pos rfl]
     simp only [Out.next]
     cases h2:typed L n (i+1+1) with
     | ok p j =>
      obtain ⟨hj,hij,hr⟩:=adds_ok size (typed_sim n (i+1+1) (by omega) hlt4) h2 ⟨kSlice,[],tf L size i,[],0⟩ (T :: O) (.m .fin :: rest)
      refine ⟨hj,by omega,?_⟩
      have hf:=st_fin size rest kSlice [] (tf L size i) (tf L size (i+1+1)) [p] T O (by decide) (by omega) hj
      rw [tf_from hlt]
      rw [tf_from hlt] at h0 hw hw4 hr hf
      exact .cons h0 (.cons hw (.cons hw4 (hr.trans (.one hf)) (Int.le_refl _)) (Int.le_refl _)) (by dsimp only;omega)
     | bad j =>
      have hr:=adds_bad size (typed_sim n (i+1+1) (by omega) hlt4) h2 ⟨kSlice,[],tf L size i,[],0⟩ (T :: O) (.m .fin :: rest)
      exact .cons h0 (.cons hw (.cons hw4 hr (Int.le_refl _)) (Int.le_refl _)) (by dsimp only;omega)
    | false =>
     rw [if_neg (by decide)]
     exact .cons h0 (.cons hw (.now (st_word_bad size hL (by decide) _ _ h4)) (Int.le_refl _)) (by dsimp only;omega)
   | false =>
    rw [h3,if_neg (by decide)] at h0
    rw [if_neg (by decide)]
    unfold nameT
    cases h4:comesT L 0 i with
    | true =>
     have hlt:=comesT_lt h4
     rw [if_pos rfl]
     have hw:=st_name size hL (.m .fin :: rest) ⟨kName,[],tf L size i,[],0⟩ (T :: O) h4
     have hf:=st_fin size rest kName (textT L i) (tf L size i) 0 [] T O (by decide) (Nat.succ_pos i) hlt
     refine ⟨hlt,Nat.lt_succ_self _,?_⟩
     rw [tf_from hlt] at h0 hw hf ⊢
     exact .cons h0 (.cons hw (.one hf) (Int.le_refl _)) (by dsimp only;omega)
    | false =>
     rw [if_neg (by decide)]
     exact .cons h0 (.now (st_name_bad size hL _ _ h4)) (by dsimp only;omega)
theorem st_opened {i:Nat} {k:Mth} {kd:By} {l:List Stp} (h:∀ s,execM L size k s=opened L size kd s l) (R:List Stp) (O:List Open):stepS L size ⟨i,.m k :: R,O⟩=.go ⟨i,l++R,⟨kd,[],tf L size i,[],0⟩ :: O⟩:=by
 have _hL:=hL
 show execM L size k ⟨i,R,O⟩=_
 rw [h];rfl
theorem param_sim (k:Mth) (kd:By) (h:∀ s,execM L size k s=opened L size kd s [.m .name,.m .typeOf,.m .fin]) (hk:plainK kd=true) (n i:Nat) (hn:2*(L.length - i)+1≤n) :
  Adds L size 50 20 [.m k] i (param L n kd i):=by
 intro T O rest
 have h0:=st_opened size hL h (i:=i) rest (T :: O)
 unfold param nameT
 cases h4:comesT L 0 i with
 | true =>
  have hlt:=comesT_lt h4
  rw [if_pos rfl]
  have hw:=st_name size hL (.m .typeOf :: .m .fin :: rest) ⟨kd,[],tf L size i,[],0⟩ (T :: O) h4
  simp only [Out.next]
  cases h2:typed L n (i+1) with
  | ok p j =>
   obtain ⟨hj,hij,hr⟩:=adds_ok size (typed_sim size hL n (i+1) (by omega) hlt) h2 ⟨kd,textT L i,tf L size i,[],0⟩ (T :: O) (.m .fin :: rest)
   have hf:=st_fin size rest kd (textT L i) (tf L size i) (tf L size (i+1)) [p] T O hk (by omega) hj
   refine ⟨hj,by omega,?_⟩
   rw [tf_from hlt] at h0 hw hr hf ⊢
   exact .cons h0 (.cons hw (hr.trans (.one hf)) (Int.le_refl _)) (by dsimp only;omega)
  | bad j =>
   have hr:=adds_bad size (typed_sim size hL n (i+1) (by omega) hlt) h2 ⟨kd,textT L i,tf L size i,[],0⟩ (T :: O) (.m .fin :: rest)
   exact .cons h0 (.cons hw hr (Int.le_refl _)) (by dsimp only;omega)
 | false =>
  rw [if_neg (by decide)]
  exact .cons h0 (.now (st_name_bad size hL _ _ h4)) (by dsimp only;omega)
end
end Go.Proofs.YtojoahlpgmnbnaaGreatDoor.K
namespace Go.Proofs.YtojoahlpgmnbnaaGreatDoor.K
open Go.Lib Go.Proofs.YtojoahlpgmnbnaaGreatDoor.U Go.Proofs.YtojoahlpgmnbnaaGreatDoor.S Go.Proofs.YtojoahlpgmnbnaaGreatDoor.T
theorem strong_pos (L:List TokP) (i:Nat):0≤strongT L i:=by
 unfold strongT
 split
 ·unfold strong
  repeat' split
  all_goals decide
 ·exact Int.le_refl _
theorem strong_out {L:List TokP} {i:Nat} (h:¬ i<L.length):strongT L i=0:=by
 unfold strongT;rw [List.getElem?_eq_none (by omega)]
def Ctx (than:Int) (T:Open) (O:List Open):Prop:=(than=0∧T.k≠kBinary)∨(T.k=kBinary∧strP T.t=than∧O≠[])
theorem settle_keep {than s e:Int} {T:Open} {O:List Open} (h:Ctx than T O) (hs:than<s∨T.k≠kBinary) (a:Pt) (f:Int):settleO e s (T.add a f :: O)=some (T.add a f :: O):=by
 have hn:¬ ((T.add a f).k=kBinary∧s≤strP (T.add a f).t):=by
  rintro ⟨h1,h2⟩
  have h1:T.k=kBinary:=h1
  have h2:s≤strP T.t:=h2
  rcases hs with hs|hs
  ·rcases h with h|h
   ·exact h.2 h1
   ·rw [h.2.1] at h2;omega
  ·exact hs h1
 unfold settleO
 cases O with
 | nil=>simp only [settle,hn,if_false]
 | cons b r=>simp only [settle,hn,if_false]
theorem settle_close {s e:Int} {t:By} (f kf:Int) (ks:List Pt) (T:Open) (O:List Open) (h:s≤strP t) :
  settleO e s (⟨kBinary,t,f,ks,kf⟩ :: T :: O)=settleO e s (T.add (.mk kBinary t f e ks) f :: O):=by
 show settle e s ⟨kBinary,t,f,ks,kf⟩ (T :: O)=_
 simp only [settle,h,and_self,if_true];rfl
theorem wrap_last (k:By) (T:Open) (O:List Open) (a:Pt) (f:Int):wrapO k (T.add a f :: O)=some (⟨k,[],f,[a],0⟩ :: { T with kf:=f } :: O):=by
 unfold wrapO Open.add
 simp
section
variable {L:List TokP} (size:Nat)
def te (L:List TokP) (size:Nat) (i:Nat):Int:=(tok L size (i - 1)).e
def Alike (L:List TokP) (size:Nat) (i:Nat) (C D:List Open):Prop:=settleO (te L size i) (strongT L i) C=settleO (te L size i) (strongT L i) D
def ExprS (L:List TokP) (size:Nat) (a b:Int) (than:Int) (i:Nat) (o:Out Pt):Prop:=∀ (T:Open) (O:List Open) (rest:List Stp),Ctx than T O→match o with
 | .ok p j=>j≤L.length∧i<j∧strongT L j≤than∧∃ C,To L size (-a) ⟨i,.m .pre :: .m .between :: rest,T :: O⟩ ⟨j,.m .between :: rest,C⟩∧Alike L size j C (T.add p (tf L size i) :: O)
 | .bad j=>Fl L size b ⟨i,.m .pre :: .m .between :: rest,T :: O⟩ j
def ExprsS (L:List TokP) (size:Nat) (b:Int) (than f:Int) (a:Pt) (i:Nat) (o:Out Pt):Prop:=∀ (T:Open) (O:List Open) (rest:List Stp) (C:List Open),Ctx than T O→Alike L size i C (T.add a f :: O)→match o with
 | .ok p j=>j≤L.length∧i≤j∧strongT L j≤than∧∃ C',To L size 0 ⟨i,.m .between :: rest,C⟩ ⟨j,.m .between :: rest,C'⟩∧Alike L size j C' (T.add p f :: O)
 | .bad j=>Fl L size b ⟨i,.m .between :: rest,C⟩ j
def TailsS (L:List TokP) (size:Nat) (b:Int) (f:Int) (a:Pt) (i:Nat) (o:Out Pt):Prop:=∀ (T:Open) (O:List Open) (rest:List Stp),match o with
 | .ok p j=>j≤L.length∧i≤j∧To L size 1 ⟨i,.m .behind :: rest,T.add a f :: O⟩ ⟨j,rest,T.add p f :: O⟩
 | .bad j=>Fl L size b ⟨i,.m .behind :: rest,T.add a f :: O⟩ j
def ArgsS (L:List TokP) (size:Nat) (b:Int) (i:Nat) (acc:List Pt) (o:Out (List Pt)):Prop:=∀ (o':Open) (O:List Open) (rest:List Stp),o'.kids=acc→o'.k≠kBinary→match o with
 | .ok l j=>j≤L.length∧i<j∧∃ kf,To L size 0 ⟨i,.m .expr :: .moreC .expr :: .word [41] :: rest,o' :: O⟩ ⟨j,rest,{ o' with kids:=l,kf:=kf } :: O⟩
 | .bad j=>Fl L size b ⟨i,.m .expr :: .moreC .expr :: .word [41] :: rest,o' :: O⟩ j
structure GoodE (L:List TokP) (size n:Nat):Prop where
 expr:∀ (than:Int) (i:Nat),8*(L.length - i)+3≤n→i≤L.length→0≤than→ExprS L size 70 30 than i (expr L n than i)
 exprs:∀ (than f:Int) (a:Pt) (i:Nat),8*(L.length - i)+1≤n→i≤L.length→0<i→0≤than→ExprsS L size 30 than f a i (exprs L n than f a i)
 pre:∀ (i:Nat),8*(L.length - i)+2≤n→i≤L.length→Adds L size 70 20 [.m .pre] i (prefixT L n i)
 tails:∀ (f:Int) (a:Pt) (i:Nat),8*(L.length - i)+1≤n→i≤L.length→0<i→TailsS L size 20 f a i (tails L n f a i)
 operand:∀ (i:Nat),8*(L.length - i)+1≤n→i≤L.length→Adds L size 80 10 [.m .operand] i (operand L n i)
 args:∀ (i:Nat) (acc:List Pt),8*(L.length - i)+4≤n→i≤L.length→ArgsS L size 50 i acc (args L n i acc)
theorem st_between {i:Nat} {R:List Stp} {C O:List Open} (hL:∀ t∈L,Fine t) (h0:0<i) (hs:settleO (te L size i) (strongT L i) C=some O) :
  stepS L size ⟨i,.m .between :: R,C⟩=if 0<strongT L i then ofOpt i (.m .text :: .m .pre :: .m .between :: R) (wrapO kBinary O) else .go ⟨i,R,O⟩:=by
 show betweenM L size ⟨i,R,C⟩=_
 unfold betweenM
 dsimp only
 rw [if_neg (by omega),strP_is size hL]
 unfold te at hs
 rw [hs];rfl
theorem exprs_sim (hL:∀ t∈L,Fine t) {n:Nat} (IH:GoodE L size n) (than f:Int) (a:Pt) (i:Nat) (hn:8*(L.length - i)+1≤n+1) (hi:i≤L.length) (h0:0<i) (ht:0≤than):ExprsS L size 30 than f a i (exprs L (n+1) than f a i):=by
 intro T O rest C hc hal
 simp only [exprs]
 by_cases h:i<L.length∧than<strongT L i
 ·rw [if_pos h]
  obtain ⟨h1,h2⟩:=h
  have hset:settleO (te L size i) (strongT L i) C=some (T.add a f :: O):=Eq.trans hal (settle_keep hc (.inl h2) a f)
  have hb:=st_between (R:=rest) size hL h0 hset
  rw [if_pos (by omega),wrap_last] at hb
  have hx:=st_text (L:=L) size (.m .pre :: .m .between :: rest) ⟨kBinary,[],f,[a],0⟩ ({ T with kf:=f } :: O) h1
  have hM:Ctx (strongT L i) ⟨kBinary,textT L i,f,[a],0⟩ ({ T with kf:=f } :: O):=.inr ⟨rfl,by rw [← text_tok (size:=size) h1];exact strP_is size hL i,by simp⟩
  have he:=IH.expr (strongT L i) (i+1) (by omega) h1 (by omega) ⟨kBinary,textT L i,f,[a],0⟩ ({ T with kf:=f } :: O) rest hM
  cases h3:expr L n (strongT L i) (i+1) with
  | bad j =>
   rw [h3] at he
   exact .cons hb (.cons hx he (Int.le_refl _)) (by dsimp only;omega)
  | ok b j =>
   rw [h3] at he
   obtain ⟨hj,hij,hsj,C2,hr,hal2⟩:=he
   simp only [Out.next]
   have hal3:Alike L size j C2 (T.add (.mk kBinary (textT L i) f (toT L j) [a,b]) f :: O):=by
    refine Eq.trans hal2 ?_
    have hcl:=settle_close (s:=strongT L j) (e:=te L size j) (t:=textT L i) f (tf L size (i+1)) [a,b] { T with kf:=f } O (by rw [← text_tok (size:=size) h1,strP_is size hL i];exact hsj)
    rw [show te L size j=toT L j from te_to (by omega) hj] at hcl ⊢
    exact hcl
   have hk:=IH.exprs than f (.mk kBinary (textT L i) f (toT L j) [a,b]) j (by omega) hj (by omega) ht T O rest C2 hc hal3
   cases h4:exprs L n than f (.mk kBinary (textT L i) f (toT L j) [a,b]) j with
   | bad k =>
    rw [h4] at hk
    exact .cons hb (.cons hx (hr.fl hk) (Int.le_refl _)) (by dsimp only;omega)
   | ok p k =>
    rw [h4] at hk
    obtain ⟨q1,q2,q3,C3,q4,q5⟩:=hk
    exact ⟨q1,by omega,q3,C3,.cons hb (.cons hx (hr.trans q4) (Int.le_refl _)) (by dsimp only;omega),q5⟩
 ·rw [if_neg h]
  refine ⟨hi,Nat.le_refl _,?_,C,.stay (Int.le_refl _),hal⟩
  by_cases h1:i<L.length
  ·have:¬ than<strongT L i:=fun e=>h ⟨h1,e⟩
   omega
  ·rw [strong_out h1];exact ht
theorem expr_sim {n:Nat} (IH:GoodE L size n) (than:Int) (i:Nat) (hn:8*(L.length - i)+3≤n+1) (hi:i≤L.length) (ht:0≤than):ExprS L size 70 30 than i (expr L (n+1) than i):=by
 intro T O rest hc
 simp only [expr]
 have hp:=IH.pre i (by omega) hi T O (.m .between :: rest)
 cases h:prefixT L n i with
 | bad j=>rw [h] at hp;exact hp.mono (by omega)
 | ok a j =>
  rw [h] at hp
  obtain ⟨hj,hij,hr⟩:=hp
  simp only [Out.next]
  rw [tf_from (by omega)] at hr ⊢
  have hk:=IH.exprs than (fromT L i) a j (by omega) hj (by omega) ht T O rest _ hc (Eq.refl (settleO (te L size j) (strongT L j) (T.add a (fromT L i) :: O)))
  cases h4:exprs L n than (fromT L i) a j with
  | bad k=>rw [h4] at hk;exact (hr.fl hk).mono (by omega)
  | ok p k =>
   rw [h4] at hk
   obtain ⟨q1,q2,q3,C3,q4,q5⟩:=hk
   exact ⟨q1,by omega,q3,C3,(hr.trans q4).mono (by omega),q5⟩
theorem whole_sim (hL:∀ t∈L,Fine t) {n i:Nat} (h:ExprS L size 70 30 0 i (expr L n 0 i)) (T:Open) (O:List Open) (rest:List Stp) (hT:T.k≠kBinary):match expr L n 0 i with
  | .ok p j=>j≤L.length∧i<j∧To L size (-69) ⟨i,.m .pre :: .m .between :: rest,T :: O⟩ ⟨j,rest,T.add p (tf L size i) :: O⟩
  | .bad j=>Fl L size 30 ⟨i,.m .pre :: .m .between :: rest,T :: O⟩ j:=by
 have hk:=h T O rest (.inl ⟨rfl,hT⟩)
 cases h1:expr L n 0 i with
 | bad j=>rw [h1] at hk;exact hk
 | ok p j =>
  rw [h1] at hk
  obtain ⟨q1,q2,q3,C,q4,q5⟩:=hk
  have hz:strongT L j=0:=by have:=strong_pos L j;omega
  have hb:=st_between (R:=rest) size hL (by omega) (Eq.trans q5 (settle_keep (.inl ⟨rfl,hT⟩) (.inr hT) p (tf L size i)))
  rw [hz,if_neg (by decide)] at hb
  exact ⟨q1,q2,(q4.trans (.one hb)).mono (by dsimp only;omega)⟩
theorem full_sim (hL:∀ t∈L,Fine t) {n i:Nat} (h:ExprS L size 70 30 0 i (expr L n 0 i)) (T:Open) (O:List Open) (rest:List Stp) (hT:T.k≠kBinary):match expr L n 0 i with
  | .ok p j=>j≤L.length∧i<j∧To L size (-68) ⟨i,.m .expr :: rest,T :: O⟩ ⟨j,rest,T.add p (tf L size i) :: O⟩
  | .bad j=>Fl L size 31 ⟨i,.m .expr :: rest,T :: O⟩ j:=by
 have hk:=whole_sim size hL h T O rest hT
 have h0:stepS L size ⟨i,.m .expr :: rest,T :: O⟩=.go ⟨i,.m .pre :: .m .between :: rest,T :: O⟩:=rfl
 cases h1:expr L n 0 i with
 | bad j=>rw [h1] at hk;exact .cons h0 hk (by dsimp only;omega)
 | ok p j =>
  rw [h1] at hk
  obtain ⟨q1,q2,q4⟩:=hk
  exact ⟨q1,q2,.cons h0 q4 (by dsimp only;omega)⟩
end
section
variable {L:List TokP} (size:Nat) (hL:∀ t∈L,Fine t)
include hL
theorem st_pre {i:Nat} (R:List Stp) (O:List Open):stepS L size ⟨i,.m .pre :: R,O⟩ =
  if isT L [38] i∨isT L [42] i∨isT L [45] i∨isT L [33] i then .go ⟨i,.m .text :: .m .pre :: .m .fin :: R,⟨kUnary,[],tf L size i,[],0⟩ :: O⟩ else .go ⟨i,.m .operand :: .m .behind :: R,O⟩:=by
 show execM L size .pre ⟨i,R,O⟩=_
 simp only [execM]
 rw [isP_is size hL (by decide),isP_is size hL (by decide),isP_is size hL (by decide),isP_is size hL (by decide)];rfl
theorem unary_sim {n:Nat} (IH:GoodE L size n) (x:By) (i:Nat) (hn:8*(L.length - i)+2≤n+1) (h:isT L x i=true) (ho:isT L [38] i∨isT L [42] i∨isT L [45] i∨isT L [33] i) (hx:textT L i=x) :
  Adds L size 70 20 [.m .pre] i ((prefixT L n (i+1)).next fun e j=>T.part L kUnary x (fromT L i) [e] j):=by
 intro T O rest
 have hlt:=isT_lt h
 have h0:=st_pre size hL (i:=i) rest (T :: O)
 rw [if_pos ho] at h0
 have h1:=st_text (L:=L) size (.m .pre :: .m .fin :: rest) ⟨kUnary,[],tf L size i,[],0⟩ (T :: O) hlt
 rw [hx] at h1
 have hp:=IH.pre (i+1) (by omega) hlt ⟨kUnary,x,tf L size i,[],0⟩ (T :: O) (.m .fin :: rest)
 cases h2:prefixT L n (i+1) with
 | bad j=>rw [h2] at hp;exact .cons h0 (.cons h1 hp (Int.le_refl _)) (by dsimp only;omega)
 | ok p j =>
  rw [h2] at hp
  obtain ⟨hj,hij,hr⟩:=hp
  have hf:=st_fin size rest kUnary x (tf L size i) (tf L size (i+1)) [p] T O (by decide) (by omega) hj
  refine ⟨hj,by omega,?_⟩
  rw [tf_from hlt] at h0 h1 hr hf ⊢
  exact .cons h0 (.cons h1 (hr.trans (.one hf)) (Int.le_refl _)) (by dsimp only;omega)
omit hL in
theorem isT_text {x:By} {i:Nat} (h:isT L x i=true):textT L i=x:=by
 unfold isT at h;unfold textT
 split at h
 ·simp only [Bool.and_eq_true,beq_iff_eq] at h;rename_i t ht;exact h.1
 ·cases h
theorem pre_sim {n:Nat} (IH:GoodE L size n) (i:Nat) (hn:8*(L.length - i)+2≤n+1) (hi:i≤L.length):Adds L size 70 20 [.m .pre] i (prefixT L (n+1) i):=by
 simp only [prefixT]
 by_cases h1:isT L [38] i=true
 ·rw [if_pos h1];exact unary_sim size hL IH [38] i hn h1 (.inl h1) (isT_text h1)
 rw [if_neg h1]
 by_cases h2:isT L [42] i=true
 ·rw [if_pos h2];exact unary_sim size hL IH [42] i hn h2 (.inr (.inl h2)) (isT_text h2)
 rw [if_neg h2]
 by_cases h3:isT L [45] i=true
 ·rw [if_pos h3];exact unary_sim size hL IH [45] i hn h3 (.inr (.inr (.inl h3))) (isT_text h3)
 rw [if_neg h3]
 by_cases h4:isT L [33] i=true
 ·rw [if_pos h4];exact unary_sim size hL IH [33] i hn h4 (.inr (.inr (.inr h4))) (isT_text h4)
 rw [if_neg h4]
 intro T O rest
 have h0:=st_pre size hL (i:=i) rest (T :: O)
 rw [if_neg (by rintro (h|h|h|h);exact h1 h;exact h2 h;exact h3 h;exact h4 h)] at h0
 have hp:=IH.operand i (by omega) hi T O (.m .behind :: rest)
 cases h5:operand L n i with
 | bad j=>rw [h5] at hp;exact .cons h0 hp (by dsimp only;omega)
 | ok a j =>
  rw [h5] at hp
  obtain ⟨hj,hij,hr⟩:=hp
  simp only [Out.next]
  rw [tf_from (by omega)] at hr ⊢
  have hk:=IH.tails (fromT L i) a j (by omega) hj (by omega) T O rest
  cases h6:tails L n (fromT L i) a j with
  | bad k=>rw [h6] at hk;exact .cons h0 (hr.fl hk) (by dsimp only;omega)
  | ok p k =>
   rw [h6] at hk
   obtain ⟨q1,q2,q3⟩:=hk
   exact ⟨q1,by omega,.cons h0 (hr.trans q3) (by dsimp only;omega)⟩
theorem st_behind {i:Nat} (R:List Stp) (T:Open) (O:List Open) (a:Pt) (f:Int):stepS L size ⟨i,.m .behind :: R,T.add a f :: O⟩ =
  if isT L [46] i then .go ⟨i,.word [46] :: .m .name :: .m .fin :: .m .behind :: R,⟨kField,[],f,[a],0⟩ :: { T with kf:=f } :: O⟩
  else if isT L [91] i then .go ⟨i,.word [91] :: .m .expr :: .word [93] :: .m .fin :: .m .behind :: R,⟨kIndex,[],f,[a],0⟩ :: { T with kf:=f } :: O⟩
  else .go ⟨i,R,T.add a f :: O⟩:=by
 show execM L size .behind ⟨i,R,T.add a f :: O⟩=_
 simp only [execM]
 rw [isP_is size hL (by decide),isP_is size hL (by decide),wrap_last,wrap_last];rfl
theorem tails_sim {n:Nat} (IH:GoodE L size n) (f:Int) (a:Pt) (i:Nat) (hn:8*(L.length - i)+1≤n+1) (hi:i≤L.length):TailsS L size 20 f a i (tails L (n+1) f a i):=by
 intro T O rest
 have h0:=st_behind size hL (i:=i) rest T O a f
 simp only [tails]
 cases h1:isT L [46] i with
 | true =>
  have hlt:=isT_lt h1
  rw [h1,if_pos rfl] at h0
  rw [if_pos rfl]
  have hw:=st_word size hL (by decide) (.m .name :: .m .fin :: .m .behind :: rest) (⟨kField,[],f,[a],0⟩ :: { T with kf:=f } :: O) h1
  unfold nameT
  cases h2:comesT L 0 (i+1) with
  | false =>
   rw [if_neg (by decide)]
   exact .cons h0 (.cons hw (.now (st_name_bad size hL _ _ h2)) (Int.le_refl _)) (by dsimp only;omega)
  | true =>
   have hlt2:=comesT_lt h2
   rw [if_pos rfl]
   simp only [Out.next]
   have hm:=st_name size hL (.m .fin :: .m .behind :: rest) ⟨kField,[],f,[a],0⟩ ({ T with kf:=f } :: O) h2
   have hf:=st_fin size (.m .behind :: rest) kField (textT L (i+1)) f 0 [a] { T with kf:=f } O (by decide) (Nat.succ_pos (i+1)) hlt2
   have hk:=IH.tails f (.mk kField (textT L (i+1)) f (toT L (i+1+1)) [a]) (i+1+1) (by omega) hlt2 (by omega) T O rest
   cases h6:tails L n f (.mk kField (textT L (i+1)) f (toT L (i+1+1)) [a]) (i+1+1) with
   | bad k=>rw [h6] at hk;exact .cons h0 (.cons hw (.cons hm (.cons hf hk (Int.le_refl _)) (Int.le_refl _)) (Int.le_refl _)) (by dsimp only;omega)
   | ok p k =>
    rw [h6] at hk
    obtain ⟨q1,q2,q3⟩:=hk
    exact ⟨q1,by omega,.cons h0 (.cons hw (.cons hm (.cons hf q3 (Int.le_refl _)) (Int.le_refl _)) (Int.le_refl _)) (by dsimp only;omega)⟩
 | false =>
  rw [h1,if_neg (by decide)] at h0
  rw [if_neg (by decide)]
  cases h3:isT L [91] i with
  | false =>
   rw [h3,if_neg (by decide)] at h0
   rw [if_neg (by decide)]
   exact ⟨hi,Nat.le_refl _,.last h0 (by dsimp only;omega)⟩
  | true =>
   have hlt:=isT_lt h3
   rw [h3,if_pos rfl] at h0
   rw [if_pos rfl]
   have hw:=st_word size hL (by decide) (.m .expr :: .word [93] :: .m .fin :: .m .behind :: rest) (⟨kIndex,[],f,[a],0⟩ :: { T with kf:=f } :: O) h3
   have he:=full_sim size hL (IH.expr 0 (i+1) (by omega) hlt (Int.le_refl _)) ⟨kIndex,[],f,[a],0⟩ ({ T with kf:=f } :: O) (.word [93] :: .m .fin :: .m .behind :: rest) (show ¬ kIndex=kBinary by decide)
   cases h4:expr L n 0 (i+1) with
   | bad j=>rw [h4] at he;exact .cons h0 (.cons hw he (Int.le_refl _)) (by dsimp only;omega)
   | ok e j =>
    rw [h4] at he
    obtain ⟨hj,hij,hr⟩:=he
    simp only [Out.next]
    unfold mustT
    cases h5:isT L [93] j with
    | false =>
     rw [if_neg (by decide)]
     exact .cons h0 (.cons hw (hr.fl (.now (st_word_bad size hL (by decide) _ _ h5))) (Int.le_refl _)) (by dsimp only;omega)
    | true =>
     have hlt5:=isT_lt h5
     rw [if_pos rfl]
     simp only
     have hw5:=st_word size hL (by decide) (.m .fin :: .m .behind :: rest) (⟨kIndex,[],f,[a,e],tf L size (i+1)⟩ :: { T with kf:=f } :: O) h5
     have hf:=st_fin size (.m .behind :: rest) kIndex [] f (tf L size (i+1)) [a,e] { T with kf:=f } O (by decide) (Nat.succ_pos j) hlt5
     have hk:=IH.tails f (.mk kIndex [] f (toT L (j+1)) [a,e]) (j+1) (by omega) hlt5 (by omega) T O rest
     cases h6:tails L n f (.mk kIndex [] f (toT L (j+1)) [a,e]) (j+1) with
     | bad k=>rw [h6] at hk;exact .cons h0 (.cons hw (hr.fl (.cons hw5 (.cons hf hk (Int.le_refl _)) (Int.le_refl _))) (Int.le_refl _)) (by dsimp only;omega)
     | ok p k =>
      rw [h6] at hk
      obtain ⟨q1,q2,q3⟩:=hk
      exact ⟨q1,by omega,.cons h0 (.cons hw (hr.trans (.cons hw5 (.cons hf q3 (Int.le_refl _)) (Int.le_refl _))) (Int.le_refl _)) (by dsimp only;omega)⟩
theorem st_moreC {i:Nat} (k:Mth) (R:List Stp) (O:List Open):stepS L size ⟨i,.moreC k :: R,O⟩=if isT L [44] i then .go ⟨i,.word [44] :: .m k :: .moreC k :: R,O⟩ else .go ⟨i,R,O⟩:=by
 show exec L size (.moreC k) ⟨i,R,O⟩=_
 simp only [exec]
 rw [isP_is size hL (by decide)];rfl
theorem st_commas {i:Nat} (k:Mth) (R:List Stp) (O:List Open):stepS L size ⟨i,.commas k :: R,O⟩=if isT L [41] i then .go ⟨i,R,O⟩ else .go ⟨i,.m k :: .moreC k :: R,O⟩:=by
 show exec L size (.commas k) ⟨i,R,O⟩=_
 simp only [exec]
 rw [isP_is size hL (by decide)];rfl
omit hL in
theorem not_both {x y:By} {i:Nat} (h:isT L x i=true) (hxy:x≠y):isT L y i=false:=by
 cases h2:isT L y i with
 | false=>rfl
 | true=>exact absurd ((isT_text h).symm.trans (isT_text h2)) hxy
theorem args_sim {n:Nat} (IH:GoodE L size n) (i:Nat) (acc:List Pt) (hn:8*(L.length - i)+4≤n+1) (hi:i≤L.length):ArgsS L size 50 i acc (args L (n+1) i acc):=by
 rintro o' O rest rfl hk
 simp only [args]
 have he:=full_sim size hL (IH.expr 0 i (by omega) hi (Int.le_refl _)) o' O (.moreC .expr :: .word [41] :: rest) hk
 cases h1:expr L n 0 i with
 | bad j=>rw [h1] at he;exact he.mono (by omega)
 | ok a j =>
  rw [h1] at he
  obtain ⟨hj,hij,hr⟩:=he
  simp only [Out.next]
  have hm:=st_moreC size hL (i:=j) .expr (.word [41] :: rest) (o'.add a (tf L size i) :: O)
  cases h2:isT L [41] j with
  | true =>
   rw [if_pos rfl]
   rw [not_both h2 (by decide),if_neg (by decide)] at hm
   have hw:=st_word size hL (by decide) rest (o'.add a (tf L size i) :: O) h2
   exact ⟨isT_lt h2,by omega,tf L size i,(hr.trans (.cons hm (.one hw) (Int.le_refl _))).mono (by dsimp only;omega)⟩
  | false =>
   rw [if_neg (by decide)]
   unfold mustT
   cases h3:isT L [44] j with
   | false =>
    rw [if_neg (by decide)]
    rw [h3,if_neg (by decide)] at hm
    exact (hr.fl (.cons hm (.now (st_word_bad size hL (by decide) _ _ h2)) (Int.le_refl _))).mono (by dsimp only;omega)
   | true =>
    have hlt:=isT_lt h3
    rw [if_pos rfl]
    rw [h3,if_pos rfl] at hm
    simp only
    have hw:=st_word size hL (by decide) (.m .expr :: .moreC .expr :: .word [41] :: rest) (o'.add a (tf L size i) :: O) h3
    have hq:=IH.args (j+1) (o'.kids++[a]) (by omega) hlt (o'.add a (tf L size i)) O rest rfl hk
    cases h4:args L n (j+1) (o'.kids++[a]) with
    | bad k=>rw [h4] at hq;exact (hr.fl (.cons hm (.cons hw hq (Int.le_refl _)) (Int.le_refl _))).mono (by dsimp only;omega)
    | ok l k =>
     rw [h4] at hq
     obtain ⟨q1,q2,kf,q3⟩:=hq
     exact ⟨q1,by omega,kf,(hr.trans (.cons hm (.cons hw q3 (Int.le_refl _)) (Int.le_refl _))).mono (by dsimp only;omega)⟩
end
end Go.Proofs.YtojoahlpgmnbnaaGreatDoor.K
namespace Go.Proofs.YtojoahlpgmnbnaaGreatDoor.K
open Go.Lib Go.Proofs.YtojoahlpgmnbnaaGreatDoor.U Go.Proofs.YtojoahlpgmnbnaaGreatDoor.S Go.Proofs.YtojoahlpgmnbnaaGreatDoor.T
section
variable {L:List TokP} (size:Nat) (hL:∀ t∈L,Fine t)
include hL
theorem st_operand {i:Nat} (R:List Stp) (O:List Open):stepS L size ⟨i,.m .operand :: R,O⟩ =
  if comesT L 1 i then .go ⟨i,.m .text :: .m .fin :: R,⟨kNum,[],tf L size i,[],0⟩ :: O⟩
  else if comesT L 2 i then .go ⟨i,.m .text :: .m .fin :: R,⟨kStr,[],tf L size i,[],0⟩ :: O⟩
  else if comesT L 0 i then .go ⟨i,.m .name :: .m .called :: .m .fin :: R,⟨kId,[],tf L size i,[],0⟩ :: O⟩
  else .go ⟨i,.word [40] :: .m .expr :: .word [41] :: .m .fin :: R,⟨kBr,[],tf L size i,[],0⟩ :: O⟩:=by
 show execM L size .operand ⟨i,R,O⟩=_
 simp only [execM]
 rw [isW_is size hL (by decide),isW_is size hL (by decide),isW_is size hL (by decide)];rfl
theorem st_called {i:Nat} (R:List Stp) (k t:By) (f kf:Int) (ks:List Pt) (O:List Open):stepS L size ⟨i,.m .called :: R,⟨k,t,f,ks,kf⟩ :: O⟩ =
  if isT L [40] i then
   if t=kNew then .go ⟨i+1,.m .typeOf :: .word [41] :: R,⟨kNew,[],f,ks,kf⟩ :: O⟩
   else if t=kMake then .go ⟨i+1,.m .typeOf :: .word [44] :: .m .expr :: .word [41] :: R,⟨kMake,[],f,ks,kf⟩ :: O⟩
   else .go ⟨i+1,.commas .expr :: .word [41] :: R,⟨kCall,t,f,ks,kf⟩ :: O⟩
  else .go ⟨i,R,⟨k,t,f,ks,kf⟩ :: O⟩:=by
 show execM L size .called ⟨i,R,⟨k,t,f,ks,kf⟩ :: O⟩=_
 simp only [execM]
 rw [isP_is size hL (by decide)];rfl
omit hL in
theorem st_finB {j:Nat} (R:List Stp) (t:By) (f kf:Int) (p:Pt) (ks:List Pt) (a:Open) (O:List Open) (h0:0<j) :
  stepS L size ⟨j,.m .fin :: R,⟨kBr,t,f,p :: ks,kf⟩ :: a :: O⟩=.go ⟨j,R,a.add p f :: O⟩:=by
 show finM L size ⟨j,R,⟨kBr,t,f,p :: ks,kf⟩ :: a :: O⟩=_
 unfold finM
 dsimp only
 rw [if_neg (by omega)];rfl
theorem operand_sim {n:Nat} (IH:GoodE L size n) (i:Nat) (hn:8*(L.length - i)+1≤n+1) (_hi:i≤L.length):Adds L size 80 10 [.m .operand] i (operand L (n+1) i):=by
 intro T O rest
 have h0:=st_operand size hL (i:=i) rest (T :: O)
 simp only [operand]
 cases h1:comesT L 1 i with
 | true =>
  have hlt:=comesT_lt h1
  rw [h1,if_pos rfl] at h0
  rw [if_pos rfl]
  have hx:=st_text (L:=L) size (.m .fin :: rest) ⟨kNum,[],tf L size i,[],0⟩ (T :: O) hlt
  have hf:=st_fin size rest kNum (textT L i) (tf L size i) 0 [] T O (by decide) (Nat.succ_pos i) hlt
  refine ⟨hlt,Nat.lt_succ_self _,?_⟩
  rw [tf_from hlt] at h0 hx hf ⊢
  exact .cons h0 (.cons hx (.one hf) (Int.le_refl _)) (by dsimp only;omega)
 | false =>
 rw [h1,if_neg (by decide)] at h0
 rw [if_neg (by decide)]
 cases h2:comesT L 2 i with
 | true =>
  have hlt:=comesT_lt h2
  rw [h2,if_pos rfl] at h0
  rw [if_pos rfl]
  have hx:=st_text (L:=L) size (.m .fin :: rest) ⟨kStr,[],tf L size i,[],0⟩ (T :: O) hlt
  have hf:=st_fin size rest kStr (textT L i) (tf L size i) 0 [] T O (by decide) (Nat.succ_pos i) hlt
  refine ⟨hlt,Nat.lt_succ_self _,?_⟩
  rw [tf_from hlt] at h0 hx hf ⊢
  exact .cons h0 (.cons hx (.one hf) (Int.le_refl _)) (by dsimp only;omega)
 | false =>
 rw [h2,if_neg (by decide)] at h0
 rw [if_neg (by decide)]
 cases h3:isT L [40] i with
 | true =>
  have hlt:=isT_lt h3
  have h4:comesT L 0 i=false:=by
   cases h5:comesT L 0 i with
   | false=>rfl
   | true =>
    unfold isT at h3;unfold comesT at h5
    rw [List.getElem?_eq_getElem hlt] at h3 h5
    simp only [Bool.and_eq_true,Bool.or_eq_true,beq_iff_eq] at h3 h5
    rw [h5] at h3
    exact absurd h3.2 (by decide)
  rw [h4,if_neg (by decide)] at h0
  rw [if_pos rfl]
  have hw:=st_word size hL (by decide) (.m .expr :: .word [41] :: .m .fin :: rest) (⟨kBr,[],tf L size i,[],0⟩ :: T :: O) h3
  have he:=full_sim size hL (IH.expr 0 (i+1) (by omega) hlt (Int.le_refl _)) ⟨kBr,[],tf L size i,[],0⟩ (T :: O) (.word [41] :: .m .fin :: rest) (show ¬ kBr=kBinary by decide)
  cases h5:expr L n 0 (i+1) with
  | bad j=>rw [h5] at he;exact .cons h0 (.cons hw he (Int.le_refl _)) (by dsimp only;omega)
  | ok e j =>
   rw [h5] at he
   obtain ⟨hj,hij,hr⟩:=he
   simp only [Out.next]
   unfold mustT
   cases h6:isT L [41] j with
   | false =>
    rw [if_neg (by decide)]
    exact .cons h0 (.cons hw (hr.fl (.now (st_word_bad size hL (by decide) _ _ h6))) (Int.le_refl _)) (by dsimp only;omega)
   | true =>
    have hlt6:=isT_lt h6
    rw [if_pos rfl]
    have hw6:=st_word size hL (by decide) (.m .fin :: rest) (⟨kBr,[],tf L size i,[e],tf L size (i+1)⟩ :: T :: O) h6
    have hf:=st_finB (L:=L) size rest [] (tf L size i) (tf L size (i+1)) e [] T O (Nat.succ_pos j)
    exact ⟨hlt6,by omega,.cons h0 (.cons hw (hr.trans (.cons hw6 (.one hf) (Int.le_refl _))) (Int.le_refl _)) (by dsimp only;omega)⟩
 | false =>
 rw [if_neg (by decide)]
 unfold nameT
 cases h4:comesT L 0 i with
 | false =>
  rw [h4,if_neg (by decide)] at h0
  rw [if_neg (by decide)]
  exact .cons h0 (.now (st_word_bad size hL (by decide) _ _ h3)) (by dsimp only;omega)
 | true =>
  have hlt:=comesT_lt h4
  rw [h4,if_pos rfl] at h0
  rw [if_pos rfl]
  simp only [Out.next]
  have hm:=st_name size hL (.m .called :: .m .fin :: rest) ⟨kId,[],tf L size i,[],0⟩ (T :: O) h4
  have hc:=st_called size hL (i:=i+1) (.m .fin :: rest) kId (textT L i) (tf L size i) 0 [] (T :: O)
  cases h5:isT L [40] (i+1) with
  | false =>
   rw [h5,if_neg (by decide)] at hc
   rw [if_pos rfl]
   have hf:=st_fin size rest kId (textT L i) (tf L size i) 0 [] T O (by decide) (Nat.succ_pos i) hlt
   refine ⟨hlt,Nat.lt_succ_self _,?_⟩
   rw [tf_from hlt] at h0 hm hc hf ⊢
   exact .cons h0 (.cons hm (.cons hc (.one hf) (Int.le_refl _)) (Int.le_refl _)) (by dsimp only;omega)
  | true =>
   have hlt5:=isT_lt h5
   rw [h5,if_pos rfl] at hc
   rw [if_neg (by decide)]
   by_cases h6:textT L i=kNew
   ·rw [if_pos h6] at hc ⊢
    have hp:=typed_sim size hL n (i+1+1) (by omega) hlt5 ⟨kNew,[],tf L size i,[],0⟩ (T :: O) (.word [41] :: .m .fin :: rest)
    cases h7:typed L n (i+1+1) with
    | bad j=>rw [h7] at hp;exact .cons h0 (.cons hm (.cons hc hp (Int.le_refl _)) (Int.le_refl _)) (by dsimp only;omega)
    | ok x j =>
     rw [h7] at hp
     obtain ⟨hj,hij,hr⟩:=hp
     simp only
     unfold mustT
     cases h8:isT L [41] j with
     | false =>
      rw [if_neg (by decide)]
      exact .cons h0 (.cons hm (.cons hc (hr.fl (.now (st_word_bad size hL (by decide) _ _ h8))) (Int.le_refl _)) (Int.le_refl _)) (by dsimp only;omega)
     | true =>
      have hlt8:=isT_lt h8
      rw [if_pos rfl]
      have hw8:=st_word size hL (by decide) (.m .fin :: rest) (⟨kNew,[],tf L size i,[x],tf L size (i+1+1)⟩ :: T :: O) h8
      have hf:=st_fin size rest kNew [] (tf L size i) (tf L size (i+1+1)) [x] T O (by decide) (Nat.succ_pos j) hlt8
      refine ⟨hlt8,by omega,?_⟩
      rw [tf_from hlt] at h0 hm hc hr hw8 hf ⊢
      exact .cons h0 (.cons hm (.cons hc (hr.trans (.cons hw8 (.one hf) (Int.le_refl _))) (Int.le_refl _)) (Int.le_refl _)) (by dsimp only;omega)
   ·rw [if_neg h6] at hc ⊢
    by_cases h7:textT L i=kMake
    ·rw [if_pos h7] at hc ⊢
     have hp:=typed_sim size hL n (i+1+1) (by omega) hlt5 ⟨kMake,[],tf L size i,[],0⟩ (T :: O) (.word [44] :: .m .expr :: .word [41] :: .m .fin :: rest)
     cases h8:typed L n (i+1+1) with
     | bad j=>rw [h8] at hp;exact .cons h0 (.cons hm (.cons hc hp (Int.le_refl _)) (Int.le_refl _)) (by dsimp only;omega)
     | ok x j =>
      rw [h8] at hp
      obtain ⟨hj,hij,hr⟩:=hp
      simp only
      unfold mustT
      cases h9:isT L [44] j with
      | false =>
       rw [if_neg (by decide)]
       exact .cons h0 (.cons hm (.cons hc (hr.fl (.now (st_word_bad size hL (by decide) _ _ h9))) (Int.le_refl _)) (Int.le_refl _)) (by dsimp only;omega)
      | true =>
       have hlt9:=isT_lt h9
       rw [if_pos rfl]
       simp only
       have hw9:=st_word size hL (by decide) (.m .expr :: .word [41] :: .m .fin :: rest) (⟨kMake,[],tf L size i,[x],tf L size (i+1+1)⟩ :: T :: O) h9
       have he:=full_sim size hL (IH.expr 0 (j+1) (by omega) hlt9 (Int.le_refl _)) ⟨kMake,[],tf L size i,[x],tf L size (i+1+1)⟩ (T :: O) (.word [41] :: .m .fin :: rest) (show ¬ kMake=kBinary by decide)
       cases h10:expr L n 0 (j+1) with
       | bad k=>rw [h10] at he;exact .cons h0 (.cons hm (.cons hc (hr.fl (.cons hw9 he (Int.le_refl _))) (Int.le_refl _)) (Int.le_refl _)) (by dsimp only;omega)
       | ok e k =>
        rw [h10] at he
        obtain ⟨hk,hjk,hr2⟩:=he
        simp only
        cases h11:isT L [41] k with
        | false =>
         rw [if_neg (by decide)]
         exact .cons h0 (.cons hm (.cons hc (hr.fl (.cons hw9 (hr2.fl (.now (st_word_bad size hL (by decide) _ _ h11))) (Int.le_refl _))) (Int.le_refl _)) (Int.le_refl _)) (by dsimp only;omega)
        | true =>
         have hlt11:=isT_lt h11
         rw [if_pos rfl]
         have hw11:=st_word size hL (by decide) (.m .fin :: rest) (⟨kMake,[],tf L size i,[x,e],tf L size (j+1)⟩ :: T :: O) h11
         have hf:=st_fin size rest kMake [] (tf L size i) (tf L size (j+1)) [x,e] T O (by decide) (Nat.succ_pos k) hlt11
         refine ⟨hlt11,by omega,?_⟩
         rw [tf_from hlt] at h0 hm hc hr hw9 hr2 hw11 hf ⊢
         exact .cons h0 (.cons hm (.cons hc (hr.trans (.cons hw9 (hr2.trans (.cons hw11 (.one hf) (Int.le_refl _))) (Int.le_refl _))) (Int.le_refl _)) (Int.le_refl _)) (by dsimp only;omega)
    ·rw [if_neg h7] at hc ⊢
     have hco:=st_commas size hL (i:=i+1+1) .expr (.word [41] :: .m .fin :: rest) (⟨kCall,textT L i,tf L size i,[],0⟩ :: T :: O)
     cases h8:isT L [41] (i+1+1) with
     | true =>
      have hlt8:=isT_lt h8
      rw [if_pos rfl]
      rw [h8,if_pos rfl] at hco
      have hw:=st_word size hL (by decide) (.m .fin :: rest) (⟨kCall,textT L i,tf L size i,[],0⟩ :: T :: O) h8
      have hf:=st_fin size rest kCall (textT L i) (tf L size i) 0 [] T O (by decide) (Nat.succ_pos (i+1+1)) hlt8
      refine ⟨hlt8,by omega,?_⟩
      rw [tf_from hlt] at h0 hm hc hco hw hf ⊢
      exact .cons h0 (.cons hm (.cons hc (.cons hco (.cons hw (.one hf) (Int.le_refl _)) (Int.le_refl _)) (Int.le_refl _)) (Int.le_refl _)) (by dsimp only;omega)
     | false =>
      rw [if_neg (by decide)]
      rw [h8,if_neg (by decide)] at hco
      have ha:=IH.args (i+1+1) [] (by omega) hlt5 ⟨kCall,textT L i,tf L size i,[],0⟩ (T :: O) (.m .fin :: rest) rfl (show ¬ kCall=kBinary by decide)
      cases h9:args L n (i+1+1) [] with
      | bad k=>rw [h9] at ha;exact .cons h0 (.cons hm (.cons hc (.cons hco ha (Int.le_refl _)) (Int.le_refl _)) (Int.le_refl _)) (by dsimp only;omega)
      | ok l k =>
       rw [h9] at ha
       obtain ⟨q1,q2,kf,q3⟩:=ha
       have hf:=st_fin size rest kCall (textT L i) (tf L size i) kf l T O (by decide) (by omega) q1
       refine ⟨q1,by omega,?_⟩
       rw [tf_from hlt] at h0 hm hc hco q3 hf ⊢
       exact .cons h0 (.cons hm (.cons hc (.cons hco (q3.trans (.one hf)) (Int.le_refl _)) (Int.le_refl _)) (Int.le_refl _)) (by dsimp only;omega)
theorem goodE:∀ n,GoodE L size n
 | 0=>⟨fun _ _ h=>by omega,fun _ _ _ _ h=>by omega,fun _ h=>by omega,fun _ _ _ h=>by omega,fun _ h=>by omega,fun _ _ h=>by omega⟩
 | n+1 =>
  have IH:=goodE n
  ⟨fun than i h hi ht=>expr_sim size IH than i h hi ht,fun than f a i h hi h0 ht=>exprs_sim size hL IH than f a i h hi h0 ht,fun i h hi=>pre_sim size hL IH i h hi,
   fun f a i h hi _=>tails_sim size hL IH f a i h hi,fun i h hi=>operand_sim size hL IH i h hi,fun i acc h hi=>args_sim size hL IH i acc h hi⟩
end
end Go.Proofs.YtojoahlpgmnbnaaGreatDoor.K
namespace Go.Proofs.YtojoahlpgmnbnaaGreatDoor.K
open Go.Lib Go.Proofs.YtojoahlpgmnbnaaGreatDoor.U Go.Proofs.YtojoahlpgmnbnaaGreatDoor.S Go.Proofs.YtojoahlpgmnbnaaGreatDoor.T
section
variable {L:List TokP} (size:Nat)
def StmtsS (L:List TokP) (size:Nat) (k:Mth) (b:Int) (i:Nat) (acc:List Pt) (x:Out (List Pt)):Prop:=∀ (o:Open) (O:List Open) (rest:List Stp),o.kids=acc→isT L [125] i=false→match x with
 | .ok l j=>j≤L.length∧i<j∧isT L [125] j=true∧∃ kf,To L size 0 ⟨i,.m k :: .more k :: .word [125] :: rest,o :: O⟩ ⟨j,.word [125] :: rest,{ o with kids:=l,kf:=kf } :: O⟩
 | .bad j=>Fl L size b ⟨i,.m k :: .more k :: .word [125] :: rest,o :: O⟩ j
def BranchS (L:List TokP) (size:Nat) (b:Int) (i:Nat) (x:Out Pt):Prop:=∀ (T:Open) (O:List Open) (rest:List Stp),isT L kIf i=true→match x with
 | .ok p j=>j≤L.length∧i<j∧To L size (-60) ⟨i,.word kIf :: .m .expr :: .m .block :: .m .otherwise :: .m .fin :: rest,⟨kIf,[],tf L size i,[],0⟩ :: T :: O⟩ ⟨j,rest,T.add p (tf L size i) :: O⟩
 | .bad j=>Fl L size b ⟨i,.word kIf :: .m .expr :: .m .block :: .m .otherwise :: .m .fin :: rest,⟨kIf,[],tf L size i,[],0⟩ :: T :: O⟩ j
structure GoodS (L:List TokP) (size n:Nat):Prop where
 block:∀ i,8*(L.length - i)+1≤n→i≤L.length→Adds L size 60 10 [.m .block] i (block L n i)
 stmts:∀ i acc,8*(L.length - i)+5≤n→i≤L.length→StmtsS L size .stmt 80 i acc (stmts L n i acc)
 branch:∀ i,8*(L.length - i)+1≤n→i≤L.length→BranchS L size 10 i (branch L n i)
 stmt:∀ i,8*(L.length - i)+4≤n→i≤L.length→Adds L size 50 60 [.m .stmt] i (stmt L n i)
theorem semi_le (i:Nat) (h:i≤L.length):i+semiN L i≤L.length:=by
 unfold semiN
 have h1:((L.drop i).takeWhile (fun t=>t.w==5)).length≤(L.drop i).length:=(List.takeWhile_sublist _).length_le
 rw [List.length_drop] at h1
 omega
theorem semi_zero {i:Nat} (h:comesT L 5 i=false):semiN L i=0:=by
 unfold semiN
 by_cases hi:i<L.length
 ·unfold comesT at h
  rw [List.getElem?_eq_getElem hi] at h
  rw [List.drop_eq_getElem_cons hi,List.takeWhile_cons]
  dsimp only at h ⊢
  rw [h];rfl
 ·rw [List.drop_of_length_le (by omega)];rfl
theorem semi_pos {i:Nat} (h:comesT L 5 i=true):0<semiN L i:=by
 unfold semiN
 have hi:=comesT_lt h
 unfold comesT at h
 rw [List.getElem?_eq_getElem hi] at h
 rw [List.drop_eq_getElem_cons hi,List.takeWhile_cons]
 dsimp only at h ⊢
 rw [h];simp
variable (hL:∀ t∈L,Fine t)
include hL
theorem st_lines {i:Nat} (k:Mth) (R:List Stp) (O:List Open):stepS L size ⟨i,.lines k :: R,O⟩ =
  if isT L [125] (i+semiN L i) then .go ⟨i+semiN L i,R,O⟩ else .go ⟨i+semiN L i,.m k :: .more k :: R,O⟩:=by
 show exec L size (.lines k) ⟨i,R,O⟩=_
 simp only [exec]
 rw [isP_is size hL (by decide)];rfl
theorem st_more {i:Nat} (k:Mth) (R:List Stp) (O:List Open):stepS L size ⟨i,.more k :: R,O⟩=if comesT L 5 i then .go ⟨i,.lines k :: R,O⟩ else .go ⟨i,R,O⟩:=by
 show exec L size (.more k) ⟨i,R,O⟩=_
 simp only [exec]
 rw [isW_is size hL (by decide)];rfl
theorem more_or {j:Nat} (k:Mth) (rest:List Stp) (O:List Open) :
  (isT L [125] (j+semiN L j)=true∧To L size 2 ⟨j,.more k :: .word [125] :: rest,O⟩ ⟨j+semiN L j,.word [125] :: rest,O⟩) ∨
  (isT L [125] (j+semiN L j)=false∧semiN L j=0∧Fl L size 1 ⟨j,.more k :: .word [125] :: rest,O⟩ j) ∨
  (isT L [125] (j+semiN L j)=false∧0<semiN L j∧To L size (-98) ⟨j,.more k :: .word [125] :: rest,O⟩ ⟨j+semiN L j,.m k :: .more k :: .word [125] :: rest,O⟩):=by
 have hm:=st_more size hL (i:=j) k (.word [125] :: rest) O
 have hl:=st_lines size hL (i:=j) k (.word [125] :: rest) O
 cases h1:comesT L 5 j with
 | false =>
  rw [h1,if_neg (by decide)] at hm
  rw [semi_zero h1,Nat.add_zero]
  cases h2:isT L [125] j with
  | true=>exact .inl ⟨rfl,.last hm (by dsimp only;omega)⟩
  | false=>exact .inr (.inl ⟨rfl,rfl,.cons hm (.now (st_word_bad size hL (by decide) _ _ h2)) (by dsimp only;omega)⟩)
 | true =>
  have hp:=semi_pos h1
  rw [h1,if_pos rfl] at hm
  cases h2:isT L [125] (j+semiN L j) with
  | true =>
   rw [h2,if_pos rfl] at hl
   exact .inl ⟨rfl,.cons hm (.one hl) (by dsimp only;omega)⟩
  | false =>
   rw [h2,if_neg (by decide)] at hl
   exact .inr (.inr ⟨rfl,hp,.cons hm (.one hl) (by dsimp only;omega)⟩)
theorem stmts_sim {n:Nat} (IH:GoodS L size n) (i:Nat) (acc:List Pt) (hn:8*(L.length - i)+5≤n+1) (hi:i≤L.length):StmtsS L size .stmt 80 i acc (stmts L (n+1) i acc):=by
 rintro o O rest rfl hb
 simp only [stmts,hb,Bool.false_eq_true,if_false]
 have hp:=IH.stmt i (by omega) hi o O (.more .stmt :: .word [125] :: rest)
 cases h1:stmt L n i with
 | bad j=>rw [h1] at hp;exact hp.mono (by omega)
 | ok p j =>
  rw [h1] at hp
  obtain ⟨hj,hij,hr⟩:=hp
  simp only [Out.next]
  have hle:=semi_le j hj
  rcases more_or size hL (j:=j) .stmt rest (o.add p (tf L size i) :: O) with ⟨q1,q2⟩|⟨q1,q0,q2⟩|⟨q1,q0,q2⟩
  ·have hs:¬ (semiN L j=0∧isT L [125] j=false):=by
    rintro ⟨a,b⟩;rw [a,Nat.add_zero,b] at q1;cases q1
   rw [if_neg hs]
   obtain ⟨m,hm⟩:∃ m,n=m+1:=⟨n - 1,by omega⟩
   rw [hm]
   simp only [stmts,q1,if_true]
   exact ⟨hle,by omega,trivial,tf L size i,(hr.trans q2).mono (by omega)⟩
  ·rw [q0,Nat.add_zero] at q1
   rw [if_pos ⟨q0,q1⟩]
   exact (hr.fl q2).mono (by omega)
  ·rw [if_neg (by omega)]
   have hk:=IH.stmts (j+semiN L j) (o.kids++[p]) (by omega) hle (o.add p (tf L size i)) O rest rfl q1
   cases h2:stmts L n (j+semiN L j) (o.kids++[p]) with
   | bad k=>rw [h2] at hk;exact (hr.fl (q2.fl hk)).mono (by omega)
   | ok l k =>
    rw [h2] at hk
    obtain ⟨r1,r2,r3,kf,r4⟩:=hk
    exact ⟨r1,by omega,r3,kf,(hr.trans (q2.trans r4)).mono (by omega)⟩
theorem block_sim {n:Nat} (IH:GoodS L size n) (i:Nat) (hn:8*(L.length - i)+1≤n+1):Adds L size 60 10 [.m .block] i (block L (n+1) i):=by
 intro T O rest
 have h0:=st_opened size hL (k:=.block) (kd:=kBlock) (l:=[.word [123],.lines .stmt,.word [125],.m .fin]) (fun s=>rfl) (i:=i) rest (T :: O)
 simp only [block]
 unfold mustT
 cases h1:isT L [123] i with
 | false =>
  rw [if_neg (by decide)]
  exact .cons h0 (.now (st_word_bad size hL (by decide) _ _ h1)) (by dsimp only;omega)
 | true =>
  have hlt:=isT_lt h1
  rw [if_pos rfl]
  simp only [Out.next]
  have hw:=st_word size hL (by decide) (.lines .stmt :: .word [125] :: .m .fin :: rest) (⟨kBlock,[],tf L size i,[],0⟩ :: T :: O) h1
  have hl:=st_lines size hL (i:=i+1) .stmt (.word [125] :: .m .fin :: rest) (⟨kBlock,[],tf L size i,[],0⟩ :: T :: O)
  have hle:=semi_le (i+1) hlt
  obtain ⟨m,hm⟩:∃ m,n=m+1:=⟨n - 1,by omega⟩
  cases h2:isT L [125] (i+1+semiN L (i+1)) with
  | true =>
   have hlt2:=isT_lt h2
   rw [h2,if_pos rfl] at hl
   rw [hm]
   simp only [stmts,h2,if_true]
   have hw2:=st_word size hL (by decide) (.m .fin :: rest) (⟨kBlock,[],tf L size i,[],0⟩ :: T :: O) h2
   have hf:=st_fin size rest kBlock [] (tf L size i) 0 [] T O (by decide) (Nat.succ_pos (i+1+semiN L (i+1))) hlt2
   refine ⟨hlt2,by omega,?_⟩
   rw [tf_from hlt] at h0 hw hl hw2 hf ⊢
   exact .cons h0 (.cons hw (.cons hl (.cons hw2 (.one hf) (Int.le_refl _)) (Int.le_refl _)) (Int.le_refl _)) (by dsimp only;omega)
  | false =>
   rw [h2,if_neg (by decide)] at hl
   have hk:=IH.stmts (i+1+semiN L (i+1)) [] (by omega) hle ⟨kBlock,[],tf L size i,[],0⟩ (T :: O) (.m .fin :: rest) rfl h2
   cases h3:stmts L n (i+1+semiN L (i+1)) [] with
   | bad k=>rw [h3] at hk;exact .cons h0 (.cons hw (.cons hl hk (Int.le_refl _)) (Int.le_refl _)) (by dsimp only;omega)
   | ok l k =>
    rw [h3] at hk
    obtain ⟨r1,r2,r3,kf,r4⟩:=hk
    have hlt3:=isT_lt r3
    simp only
    rw [r3,if_pos rfl]
    have hw2:=st_word size hL (by decide) (.m .fin :: rest) (⟨kBlock,[],tf L size i,l,kf⟩ :: T :: O) r3
    have hf:=st_fin size rest kBlock [] (tf L size i) kf l T O (by decide) (Nat.succ_pos k) hlt3
    refine ⟨hlt3,by omega,?_⟩
    rw [tf_from hlt] at h0 hw hl r4 hw2 hf ⊢
    exact .cons h0 (.cons hw (.cons hl (r4.trans (.cons hw2 (.one hf) (Int.le_refl _))) (Int.le_refl _)) (Int.le_refl _)) (by dsimp only;omega)
theorem st_otherwise {i:Nat} (R:List Stp) (O:List Open):stepS L size ⟨i,.m .otherwise :: R,O⟩=if isT L kElse i then .go ⟨i,.word kElse :: .m .ifOrBlock :: R,O⟩ else .go ⟨i,R,O⟩:=by
 show execM L size .otherwise ⟨i,R,O⟩=_
 simp only [execM]
 rw [isP_is size hL (by decide)];rfl
theorem st_ifOr {i:Nat} (R:List Stp) (O:List Open):stepS L size ⟨i,.m .ifOrBlock :: R,O⟩ =
  if isT L kIf i then .go ⟨i,.word kIf :: .m .expr :: .m .block :: .m .otherwise :: .m .fin :: R,⟨kIf,[],tf L size i,[],0⟩ :: O⟩ else stepS L size ⟨i,.m .block :: R,O⟩:=by
 show execM L size .ifOrBlock ⟨i,R,O⟩=_
 simp only [execM]
 rw [isP_is size hL (by decide)];rfl
theorem branch_sim {n:Nat} (IH:GoodS L size n) (i:Nat) (hn:8*(L.length - i)+1≤n+1):BranchS L size 10 i (branch L (n+1) i):=by
 intro T O rest h1
 have hlt:=isT_lt h1
 simp only [branch]
 unfold mustT
 rw [h1,if_pos rfl]
 simp only [Out.next]
 have hw:=st_word size hL (by decide) (.m .expr :: .m .block :: .m .otherwise :: .m .fin :: rest) (⟨kIf,[],tf L size i,[],0⟩ :: T :: O) h1
 have he:=full_sim size hL ((goodE size hL n).expr 0 (i+1) (by omega) hlt (Int.le_refl _)) ⟨kIf,[],tf L size i,[],0⟩ (T :: O) (.m .block :: .m .otherwise :: .m .fin :: rest) (show ¬ kIf=kBinary by decide)
 cases h2:expr L n 0 (i+1) with
 | bad j=>rw [h2] at he;exact .cons hw he (by dsimp only;omega)
 | ok e j =>
  rw [h2] at he
  obtain ⟨hj,hij,hr⟩:=he
  simp only
  have hb:=IH.block j (by omega) hj (Open.add ⟨kIf,[],tf L size i,[],0⟩ e (tf L size (i+1))) (T :: O) (.m .otherwise :: .m .fin :: rest)
  cases h3:block L n j with
  | bad k=>rw [h3] at hb;exact .cons hw (hr.fl hb) (by dsimp only;omega)
  | ok b k =>
   rw [h3] at hb
   obtain ⟨hk,hjk,hr2⟩:=hb
   simp only
   have ho:=st_otherwise size hL (i:=k) (.m .fin :: rest) (⟨kIf,[],tf L size i,[e,b],tf L size j⟩ :: T :: O)
   cases h4:isT L kElse k with
   | false =>
    rw [h4,if_neg (by decide)] at ho
    rw [if_neg (by decide)]
    have hf:=st_fin size rest kIf [] (tf L size i) (tf L size j) [e,b] T O (by decide) (by omega) hk
    refine ⟨hk,by omega,?_⟩
    rw [tf_from hlt] at hw hr hr2 ho hf ⊢
    exact .cons hw (hr.trans (hr2.trans (.cons ho (.one hf) (Int.le_refl _)))) (by dsimp only;omega)
   | true =>
    have hlt4:=isT_lt h4
    rw [h4,if_pos rfl] at ho
    rw [if_pos rfl]
    have hw4:=st_word size hL (by decide) (.m .ifOrBlock :: .m .fin :: rest) (⟨kIf,[],tf L size i,[e,b],tf L size j⟩ :: T :: O) h4
    have hio:=st_ifOr size hL (i:=k+1) (.m .fin :: rest) (⟨kIf,[],tf L size i,[e,b],tf L size j⟩ :: T :: O)
    cases h5:isT L kIf (k+1) with
    | true =>
     rw [h5,if_pos rfl] at hio
     rw [if_pos rfl]
     have hq:=IH.branch (k+1) (by omega) hlt4 ⟨kIf,[],tf L size i,[e,b],tf L size j⟩ (T :: O) (.m .fin :: rest) h5
     cases h6:branch L n (k+1) with
     | bad m=>rw [h6] at hq;exact .cons hw (hr.fl (hr2.fl (.cons ho (.cons hw4 (.cons hio hq (Int.le_refl _)) (Int.le_refl _)) (Int.le_refl _)))) (by dsimp only;omega)
     | ok x m =>
      rw [h6] at hq
      obtain ⟨q1,q2,q3⟩:=hq
      have hf:=st_fin size rest kIf [] (tf L size i) (tf L size (k+1)) [e,b,x] T O (by decide) (by omega) q1
      refine ⟨q1,by omega,?_⟩
      rw [tf_from hlt] at hw hr hr2 ho hw4 hio q3 hf ⊢
      exact .cons hw (hr.trans (hr2.trans (.cons ho (.cons hw4 (.cons hio (q3.trans (.one hf)) (Int.le_refl _)) (Int.le_refl _)) (Int.le_refl _)))) (by dsimp only;omega)
    | false =>
     rw [h5,if_neg (by decide)] at hio
     rw [if_neg (by decide)]
     have hq:=IH.block (k+1) (by omega) hlt4 ⟨kIf,[],tf L size i,[e,b],tf L size j⟩ (T :: O) (.m .fin :: rest)
     have same:∀ s:St,stepS L size ⟨k+1,.m .block :: .m .fin :: rest,⟨kIf,[],tf L size i,[e,b],tf L size j⟩ :: T :: O⟩=.go s→stepS L size ⟨k+1,.m .ifOrBlock :: .m .fin :: rest,⟨kIf,[],tf L size i,[e,b],tf L size j⟩ :: T :: O⟩=.go s:=fun s h=>hio.trans h
     have h0:=st_opened size hL (k:=.block) (kd:=kBlock) (l:=[.word [123],.lines .stmt,.word [125],.m .fin]) (fun s=>rfl) (i:=k+1) (.m .fin :: rest) (⟨kIf,[],tf L size i,[e,b],tf L size j⟩ :: T :: O)
     have hio2:=same _ h0
     cases h6:block L n (k+1) with
     | bad m =>
      rw [h6] at hq
      obtain ⟨c,q1,s',q2,q3⟩:=hq
      have hne:stepS L size ⟨k+1,.m .block :: .m .fin :: rest,⟨kIf,[],tf L size i,[e,b],tf L size j⟩ :: T :: O⟩≠.wrong:=by rw [h0];exact fun h=>nomatch h
      have hq':Fl L size 10 ⟨k+1,.m .ifOrBlock :: .m .fin :: rest,⟨kIf,[],tf L size i,[e,b],tf L size j⟩ :: T :: O⟩ m:=by
       cases q2 with
       | refl=>exact absurd q3.1 hne
       | step g1 g2=>exact ⟨_,q1,s',.step (same _ g1) g2,q3⟩
      exact .cons hw (hr.fl (hr2.fl (.cons ho (.cons hw4 hq' (Int.le_refl _)) (Int.le_refl _)))) (by dsimp only;omega)
     | ok x m =>
      rw [h6] at hq
      obtain ⟨q1,q2,c,q3,q4⟩:=hq
      have hq':To L size (-60) ⟨k+1,.m .ifOrBlock :: .m .fin :: rest,⟨kIf,[],tf L size i,[e,b],tf L size j⟩ :: T :: O⟩ ⟨m,.m .fin :: rest,Open.add ⟨kIf,[],tf L size i,[e,b],tf L size j⟩ x (tf L size (k+1)) :: T :: O⟩:=by
       generalize hs2:(⟨m,.m .fin :: rest,Open.add ⟨kIf,[],tf L size i,[e,b],tf L size j⟩ x (tf L size (k+1)) :: T :: O⟩:St)=s2 at q4
       cases q4 with
       | refl=>exact absurd (congrArg St.i hs2) (by dsimp only;omega)
       | step g1 g2=>exact ⟨_,by rw [hs2] at q3;exact q3,.step (same _ g1) g2⟩
      have hf:=st_fin size rest kIf [] (tf L size i) (tf L size (k+1)) [e,b,x] T O (by decide) (by omega) q1
      refine ⟨q1,by omega,?_⟩
      rw [tf_from hlt] at hw hr hr2 ho hw4 hq' hf ⊢
      exact .cons hw (hr.trans (hr2.trans (.cons ho (.cons hw4 (hq'.trans (.one hf)) (Int.le_refl _)) (Int.le_refl _)))) (by dsimp only;omega)
end
end Go.Proofs.YtojoahlpgmnbnaaGreatDoor.K
namespace Go.Proofs.YtojoahlpgmnbnaaGreatDoor.K
open Go.Lib Go.Proofs.YtojoahlpgmnbnaaGreatDoor.U Go.Proofs.YtojoahlpgmnbnaaGreatDoor.S Go.Proofs.YtojoahlpgmnbnaaGreatDoor.T
section
variable {L:List TokP} (size:Nat) (hL:∀ t∈L,Fine t)
include hL
theorem variable_sim (k:Mth) (hk:∀ (i:Nat) (R:List Stp) (O:List Open),isT L kVar i=true→stepS L size ⟨i,.m k :: R,O⟩=.go ⟨i,.word kVar :: .m .name :: .m .typeOf :: .m .fin :: R,⟨kVar,[],tf L size i,[],0⟩ :: O⟩)
  (n i:Nat) (hn:2*(L.length - i)+1≤n) (h1:isT L kVar i=true):Adds L size 50 60 [.m k] i (variable' L n i):=by
 intro T O rest
 have hlt:=isT_lt h1
 have h0:=hk i rest (T :: O) h1
 unfold variable' mustT
 rw [h1,if_pos rfl]
 simp only [Out.next]
 have hw:=st_word size hL (by decide) (.m .name :: .m .typeOf :: .m .fin :: rest) (⟨kVar,[],tf L size i,[],0⟩ :: T :: O) h1
 unfold nameT
 cases h4:comesT L 0 (i+1) with
 | true =>
  have hlt4:=comesT_lt h4
  rw [if_pos rfl]
  have hm:=st_name size hL (.m .typeOf :: .m .fin :: rest) ⟨kVar,[],tf L size i,[],0⟩ (T :: O) h4
  simp only
  have hr:=typed_sim size hL n (i+1+1) (by omega) hlt4 ⟨kVar,textT L (i+1),tf L size i,[],0⟩ (T :: O) (.m .fin :: rest)
  cases h2:typed L n (i+1+1) with
  | ok p j =>
   rw [h2] at hr
   obtain ⟨hj,hij,hr⟩:=hr
   have hf:=st_fin size rest kVar (textT L (i+1)) (tf L size i) (tf L size (i+1+1)) [p] T O (by decide) (by omega) hj
   refine ⟨hj,by omega,?_⟩
   rw [tf_from hlt] at h0 hw hm hr hf ⊢
   exact .cons h0 (.cons hw (.cons hm (hr.trans (.one hf)) (Int.le_refl _)) (Int.le_refl _)) (by dsimp only;omega)
  | bad j =>
   rw [h2] at hr
   exact .cons h0 (.cons hw (.cons hm hr (Int.le_refl _)) (Int.le_refl _)) (by dsimp only;omega)
 | false =>
  rw [if_neg (by decide)]
  exact .cons h0 (.cons hw (.now (st_name_bad size hL _ _ h4)) (Int.le_refl _)) (by dsimp only;omega)
theorem st_stmt {i:Nat} (R:List Stp) (O:List Open):stepS L size ⟨i,.m .stmt :: R,O⟩ =
  if isT L kVar i then .go ⟨i,.word kVar :: .m .name :: .m .typeOf :: .m .fin :: R,⟨kVar,[],tf L size i,[],0⟩ :: O⟩
  else if isT L kReturn i then .go ⟨i,.word kReturn :: .m .returned :: .m .fin :: R,⟨kReturn,[],tf L size i,[],0⟩ :: O⟩
  else if isT L kIf i then .go ⟨i,.word kIf :: .m .expr :: .m .block :: .m .otherwise :: .m .fin :: R,⟨kIf,[],tf L size i,[],0⟩ :: O⟩
  else if isT L kFor i then .go ⟨i,.word kFor :: .m .expr :: .m .block :: .m .fin :: R,⟨kFor,[],tf L size i,[],0⟩ :: O⟩
  else if isT L [123] i then stepS L size ⟨i,.m .block :: R,O⟩
  else .go ⟨i,.m .expr :: .m .assigned :: .m .fin :: R,⟨kExpr,[],tf L size i,[],0⟩ :: O⟩:=by
 show execM L size .stmt ⟨i,R,O⟩=_
 simp only [execM]
 rw [isP_is size hL (by decide),isP_is size hL (by decide),isP_is size hL (by decide),isP_is size hL (by decide),isP_is size hL (by decide)];rfl
theorem st_returned {i:Nat} (R:List Stp) (O:List Open):stepS L size ⟨i,.m .returned :: R,O⟩=if comesT L 5 i=false∧isT L [125] i=false then .go ⟨i,.m .pre :: .m .between :: R,O⟩ else .go ⟨i,R,O⟩:=by
 show execM L size .returned ⟨i,R,O⟩=_
 simp only [execM]
 rw [isP_is size hL (by decide),isW_is size hL (by decide)];rfl
theorem st_assigned {i:Nat} (R:List Stp) (k t:By) (f kf:Int) (ks:List Pt) (O:List Open):stepS L size ⟨i,.m .assigned :: R,⟨k,t,f,ks,kf⟩ :: O⟩ =
  if isT L [61] i then .go ⟨i+1,.m .pre :: .m .between :: R,⟨kAssign,t,f,ks,kf⟩ :: O⟩
  else if isT L [58,61] i then .go ⟨i+1,.m .pre :: .m .between :: R,⟨kDefine,t,f,ks,kf⟩ :: O⟩
  else .go ⟨i,R,⟨k,t,f,ks,kf⟩ :: O⟩:=by
 show execM L size .assigned ⟨i,R,⟨k,t,f,ks,kf⟩ :: O⟩=_
 simp only [execM]
 rw [isP_is size hL (by decide),isP_is size hL (by decide)];rfl
omit hL in
theorem adds_swap {a b:Int} {k k':Mth} {i:Nat} {o:Out Pt} (h:Adds L size a b [.m k] i o) (he:∀ R O,stepS L size ⟨i,.m k' :: R,O⟩=stepS L size ⟨i,.m k :: R,O⟩):Adds L size a b [.m k'] i o:=by
 intro T O rest
 have h1:=h T O rest
 have h2:=he rest (T :: O)
 cases o with
 | ok p j =>
  obtain ⟨q1,q2,c,q3,q4⟩:=h1
  refine ⟨q1,q2,c,q3,?_⟩
  generalize hs2:(⟨j,rest,T.add p (tf L size i) :: O⟩:St)=s2 at q4
  cases q4 with
  | refl=>exact absurd (congrArg St.i hs2) (by dsimp only [List.cons_append,List.nil_append];omega)
  | step g1 g2=>exact .step (h2.trans g1) g2
 | bad j =>
  obtain ⟨c,q1,s',q2,q3⟩:=h1
  cases q2 with
  | refl=>exact ⟨c,q1,_,.refl _ _,h2.trans q3.1,q3.2⟩
  | step g1 g2=>exact ⟨_,q1,s',.step (h2.trans g1) g2,q3⟩
theorem ret_sim {n:Nat} (i:Nat) (hn:8*(L.length - i)+4≤n+1) (h1:isT L kReturn i=true) (h2:isT L kVar i=false):Adds L size 50 60 [.m .stmt] i (if comesT L 5 (i+1)∨isT L [125] (i+1) then T.part L kReturn [] (fromT L i) [] (i+1) else (expr L n 0 (i+1)).next fun e j=>T.part L kReturn [] (fromT L i) [e] j):=by
 intro T O rest
 have hlt:=isT_lt h1
 have h0:=st_stmt size hL (i:=i) rest (T :: O)
 rw [h2,if_neg (by decide),h1,if_pos rfl] at h0
 have hw:=st_word size hL (by decide) (.m .returned :: .m .fin :: rest) (⟨kReturn,[],tf L size i,[],0⟩ :: T :: O) h1
 have hr:=st_returned size hL (i:=i+1) (.m .fin :: rest) (⟨kReturn,[],tf L size i,[],0⟩ :: T :: O)
 by_cases h3:comesT L 5 (i+1)=true∨isT L [125] (i+1)=true
 ·rw [if_pos h3]
  rw [if_neg (by rintro ⟨a,b⟩;rw [a,b] at h3;rcases h3 with h3|h3 <;> cases h3)] at hr
  have hf:=st_fin size rest kReturn [] (tf L size i) 0 [] T O (by decide) (Nat.succ_pos i) hlt
  refine ⟨hlt,Nat.lt_succ_self _,?_⟩
  rw [tf_from hlt] at h0 hw hr hf ⊢
  exact .cons h0 (.cons hw (.cons hr (.one hf) (Int.le_refl _)) (Int.le_refl _)) (by dsimp only;omega)
 ·rw [if_neg h3]
  rw [if_pos (by
   constructor
   ·cases h:comesT L 5 (i+1) with
    | false=>rfl
    | true=>exact absurd (.inl h) h3
   ·cases h:isT L [125] (i+1) with
    | false=>rfl
    | true=>exact absurd (.inr h) h3)] at hr
  have he:=whole_sim size hL ((goodE size hL n).expr 0 (i+1) (by omega) hlt (Int.le_refl _)) ⟨kReturn,[],tf L size i,[],0⟩ (T :: O) (.m .fin :: rest) (show ¬ kReturn=kBinary by decide)
  cases h4:expr L n 0 (i+1) with
  | bad j=>rw [h4] at he;exact .cons h0 (.cons hw (.cons hr he (Int.le_refl _)) (Int.le_refl _)) (by dsimp only;omega)
  | ok e j =>
   rw [h4] at he
   obtain ⟨hj,hij,hx⟩:=he
   have hf:=st_fin size rest kReturn [] (tf L size i) (tf L size (i+1)) [e] T O (by decide) (by omega) hj
   refine ⟨hj,by omega,?_⟩
   rw [tf_from hlt] at h0 hw hr hx hf ⊢
   exact .cons h0 (.cons hw (.cons hr (hx.trans (.one hf)) (Int.le_refl _)) (Int.le_refl _)) (by dsimp only;omega)
theorem stmt_sim {n:Nat} (IH:GoodS L size n) (i:Nat) (hn:8*(L.length - i)+4≤n+1) (hi:i≤L.length):Adds L size 50 60 [.m .stmt] i (stmt L (n+1) i):=by
 simp only [stmt]
 by_cases h1:isT L kVar i=true
 ·rw [if_pos h1]
  exact variable_sim size hL .stmt (fun i R O h=>by rw [st_stmt size hL,h,if_pos rfl]) n i (by omega) h1
 rw [if_neg h1]
 have h1f:isT L kVar i=false:=by simpa using h1
 by_cases h2:isT L kIf i=true
 ·rw [if_pos h2]
  have hlt:=isT_lt h2
  intro T O rest
  have h0:=st_stmt size hL (i:=i) rest (T :: O)
  rw [h1f,if_neg (by decide),not_both h2 (by decide),if_neg (by decide),h2,if_pos rfl] at h0
  have hb:=IH.branch i (by omega) hi T O rest h2
  cases h3:branch L n i with
  | bad j=>rw [h3] at hb;exact .cons h0 hb (by dsimp only;omega)
  | ok p j =>
   rw [h3] at hb
   obtain ⟨q1,q2,q3⟩:=hb
   exact ⟨q1,q2,.cons h0 q3 (by dsimp only;omega)⟩
 rw [if_neg h2]
 have h2f:isT L kIf i=false:=by simpa using h2
 by_cases h3:isT L [123] i=true
 ·rw [if_pos h3]
  have hb:=adds_swap size (k':=.stmt) (IH.block i (by omega) hi) (fun R O=>by
   rw [st_stmt size hL,h1f,if_neg (by decide),not_both h3 (by decide),if_neg (by decide),h2f,if_neg (by decide),not_both h3 (by decide),if_neg (by decide),h3,if_pos rfl])
  intro T O rest
  have hb2:=hb T O rest
  cases h4:block L n i with
  | bad j=>rw [h4] at hb2;exact hb2.mono (by omega)
  | ok p j =>
   rw [h4] at hb2
   exact ⟨hb2.1,hb2.2.1,hb2.2.2.mono (by omega)⟩
 rw [if_neg h3]
 have h3f:isT L [123] i=false:=by simpa using h3
 by_cases h4:isT L kFor i=true
 ·rw [if_pos h4]
  have hlt:=isT_lt h4
  intro T O rest
  have h0:=st_stmt size hL (i:=i) rest (T :: O)
  rw [h1f,if_neg (by decide),not_both h4 (by decide),if_neg (by decide),h2f,if_neg (by decide),h4,if_pos rfl] at h0
  have hw:=st_word size hL (by decide) (.m .expr :: .m .block :: .m .fin :: rest) (⟨kFor,[],tf L size i,[],0⟩ :: T :: O) h4
  have he:=full_sim size hL ((goodE size hL n).expr 0 (i+1) (by omega) hlt (Int.le_refl _)) ⟨kFor,[],tf L size i,[],0⟩ (T :: O) (.m .block :: .m .fin :: rest) (show ¬ kFor=kBinary by decide)
  cases h5:expr L n 0 (i+1) with
  | bad j=>rw [h5] at he;exact .cons h0 (.cons hw he (Int.le_refl _)) (by dsimp only;omega)
  | ok e j =>
   rw [h5] at he
   obtain ⟨hj,hij,hr⟩:=he
   simp only [Out.next]
   have hb:=IH.block j (by omega) hj (Open.add ⟨kFor,[],tf L size i,[],0⟩ e (tf L size (i+1))) (T :: O) (.m .fin :: rest)
   cases h6:block L n j with
   | bad k=>rw [h6] at hb;exact .cons h0 (.cons hw (hr.fl hb) (Int.le_refl _)) (by dsimp only;omega)
   | ok b k =>
    rw [h6] at hb
    obtain ⟨hk,hjk,hr2⟩:=hb
    have hf:=st_fin size rest kFor [] (tf L size i) (tf L size j) [e,b] T O (by decide) (by omega) hk
    refine ⟨hk,by omega,?_⟩
    rw [tf_from hlt] at h0 hw hr hr2 hf ⊢
    exact .cons h0 (.cons hw (hr.trans (hr2.trans (.one hf))) (Int.le_refl _)) (by dsimp only;omega)
 rw [if_neg h4]
 have h4f:isT L kFor i=false:=by simpa using h4
 by_cases h5:isT L kReturn i=true
 ·rw [if_pos h5];exact ret_sim size hL i hn h5 h1f
 rw [if_neg h5]
 have h5f:isT L kReturn i=false:=by simpa using h5
 intro T O rest
 have h0:=st_stmt size hL (i:=i) rest (T :: O)
 rw [h1f,if_neg (by decide),h5f,if_neg (by decide),h2f,if_neg (by decide),h4f,if_neg (by decide),h3f,if_neg (by decide)] at h0
 have he:=full_sim size hL ((goodE size hL n).expr 0 i (by omega) hi (Int.le_refl _)) ⟨kExpr,[],tf L size i,[],0⟩ (T :: O) (.m .assigned :: .m .fin :: rest) (show ¬ kExpr=kBinary by decide)
 cases h6:expr L n 0 i with
 | bad j=>rw [h6] at he;exact .cons h0 he (by dsimp only;omega)
 | ok a j =>
  rw [h6] at he
  obtain ⟨hj,hij,hr⟩:=he
  simp only [Out.next]
  have hlt:i<L.length:=by omega
  have ha:=st_assigned size hL (i:=j) (.m .fin :: rest) kExpr [] (tf L size i) (tf L size i) [a] (T :: O)
  cases h7:isT L [61] j with
  | true =>
   have hlt7:=isT_lt h7
   rw [h7,if_pos rfl] at ha
   rw [if_pos rfl]
   have he2:=whole_sim size hL ((goodE size hL n).expr 0 (j+1) (by omega) hlt7 (Int.le_refl _)) ⟨kAssign,[],tf L size i,[a],tf L size i⟩ (T :: O) (.m .fin :: rest) (show ¬ kAssign=kBinary by decide)
   cases h8:expr L n 0 (j+1) with
   | bad k=>rw [h8] at he2;exact .cons h0 (hr.fl (.cons ha he2 (Int.le_refl _))) (by dsimp only;omega)
   | ok b k =>
    rw [h8] at he2
    obtain ⟨hk,hjk,hr2⟩:=he2
    have hf:=st_fin size rest kAssign [] (tf L size i) (tf L size (j+1)) [a,b] T O (by decide) (by omega) hk
    refine ⟨hk,by omega,?_⟩
    rw [tf_from hlt] at h0 hr ha hr2 hf ⊢
    exact .cons h0 (hr.trans (.cons ha (hr2.trans (.one hf)) (Int.le_refl _))) (by dsimp only;omega)
  | false =>
   rw [h7,if_neg (by decide)] at ha
   rw [if_neg (by decide)]
   cases h8:isT L [58,61] j with
   | true =>
    have hlt8:=isT_lt h8
    rw [h8,if_pos rfl] at ha
    rw [if_pos rfl]
    have he2:=whole_sim size hL ((goodE size hL n).expr 0 (j+1) (by omega) hlt8 (Int.le_refl _)) ⟨kDefine,[],tf L size i,[a],tf L size i⟩ (T :: O) (.m .fin :: rest) (show ¬ kDefine=kBinary by decide)
    cases h9:expr L n 0 (j+1) with
    | bad k=>rw [h9] at he2;exact .cons h0 (hr.fl (.cons ha he2 (Int.le_refl _))) (by dsimp only;omega)
    | ok b k =>
     rw [h9] at he2
     obtain ⟨hk,hjk,hr2⟩:=he2
     have hf:=st_fin size rest kDefine [] (tf L size i) (tf L size (j+1)) [a,b] T O (by decide) (by omega) hk
     refine ⟨hk,by omega,?_⟩
     rw [tf_from hlt] at h0 hr ha hr2 hf ⊢
     exact .cons h0 (hr.trans (.cons ha (hr2.trans (.one hf)) (Int.le_refl _))) (by dsimp only;omega)
   | false =>
    rw [h8,if_neg (by decide)] at ha
    rw [if_neg (by decide)]
    have hf:=st_fin size rest kExpr [] (tf L size i) (tf L size i) [a] T O (by decide) (by omega) hj
    refine ⟨hj,by omega,?_⟩
    rw [tf_from hlt] at h0 hr ha hf ⊢
    exact .cons h0 (hr.trans (.cons ha (.one hf) (Int.le_refl _))) (by dsimp only;omega)
theorem goodS:∀ n,GoodS L size n
 | 0=>⟨fun _ h=>by omega,fun _ _ h=>by omega,fun _ h=>by omega,fun _ h=>by omega⟩
 | n+1 =>
  have IH:=goodS n
  ⟨fun i h _=>block_sim size hL IH i h,fun i acc h hi=>stmts_sim size hL IH i acc h hi,fun i h _=>branch_sim size hL IH i h,fun i h hi=>stmt_sim size hL IH i h hi⟩
end
end Go.Proofs.YtojoahlpgmnbnaaGreatDoor.K
