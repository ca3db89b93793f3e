/- What the claim needs of the texts KTop2, KPop. -/
import Derived.Test.YtojoahlpgmnbnaaGreatDoorUFOp
import Derived.Test.YtojoahlpgmnbnaaGreatDoorUF3
namespace Go.Proofs.YtojoahlpgmnbnaaGreatDoor.K
open Go.RowKit
open Go.Lib hiding intOf
open U S T
section
variable {d:Nat} {L:List TokP} {size:Nat} {lv:Value} {s:St} {O:Nat→Prop}
theorem TopAt.below {W W':World} {ov kv:Value} {bs bs1:List (Option Nat)} {xs us1 ks:List Value} {o:Open} {r:List Open} {g c:Nat} (h:TopAt d O o r ov bs xs W g c kv ks us1 bs1) (hb:Below W.heap.size W W'):TopAt d O o r ov bs xs W' g c kv ks us1 bs1:=by
 have hg:=hb.block g h.lt
 obtain ⟨cs,fr,ht⟩:=h.ty
 exact ⟨h.hov,h.hxs,h.hbs,owns_later h.own hb,parts_stay (W:=W) (W':=W') (Stay.of_below hb) h.parts,OpensIn.stay (W:=W) (W':=W') (Stay.of_below hb) h.rest (fun k hk=>hb.block k (opens_lt h.rest hk)),h.len,
  fun j u hj=>(hb.cell (p:=⟨g,_,none⟩) h.lt).trans (h.cell j u hj),fun j=>by have h1:=h.frozen j;simp only [World.frozen?] at h1 ⊢;rw [hg];exact h1,h.ne,Nat.lt_of_lt_of_le h.lt hb.size,⟨cs,fr,hg.trans ht⟩,h.apart⟩
theorem bstr_mk (y:ByteArray):bstr y.toList=y:=by unfold bstr;rw [ByteArray.toList_eq]
theorem bstr_str (t:By):∃ y:ByteArray,bstr t=y∧t=y.toList:=⟨bstr t,rfl,by unfold bstr;rw [ByteArray.toList_eq]⟩
set_option maxHeartbeats 4000000 in
set_option maxRecDepth 20000 in
theorem g_text {W:World} (hM:Mem d L size lv s O W) (hs:Small L s) (ho:∃ o r,s.opn=o :: r) (hi:s.i<L.length):Calls Tryz.prog 154 #[ptr d] W (Does d L size lv s.i O W (execM L size .text s)):=by
 obtain ⟨o,r,ho⟩:=ho
 have hrl:r.length≤1000000:=by have:=hs.opn;rw [ho,List.length_cons] at this;omega
 simp only [execM]
 obtain ⟨_,_,_,y0,_,_,hy0,_⟩:=next_txt hM hs.i
 rw [if_pos hi,ho,hy0]
 obtain ⟨tv,ov,bs,us,xs,hX⟩:=id hM
 obtain ⟨g,c,kv,ks,us1,bs1,hT⟩:=top_of hX ho
 have cT:=top_any hX hT hrl (Below.refl _ _)
 go_enter Tryz.func154,Tryz.ntmps154
 go_wp2_with fail
 refine cT.mono ?_
 rintro e v0 ⟨rfl,m0,rfl⟩
 dsimp only
 obtain ⟨tw,tf,te,y,_,_,hy,c1⟩:=next_txt (hM.below (drewB' W m0)) hs.i
 obtain rfl:y0=y:=by rw [← bstr_mk y,← hy,hy0,bstr_mk]
 clear hy hy0
 have hfl:=fun X=>fld1 (.int .i64 tw) (.string y0) (.int .i64 tf) (.int .i64 te) X
 go_wp2_with fail
 refine c1.mono ?_
 rintro e v1 ⟨rfl,hb1⟩
 dsimp only
 have hb01:Below W.heap.size W v1:=(drewB' W m0).trans hb1
 have hX1:=hX.below hb01
 have hT1:=hT.below hb01
 obtain ⟨q1,q2⟩:=put_text hX1 ho hT1 y0.toList y0 (bstr_mk y0)
 have k1:=hT1.cell 1 _ rfl
 have f1:=hT1.frozen (r.length*6+1)
 have hM2:Mem d L size lv _ O _:=⟨_,_,_,_,_,q1⟩
 obtain ⟨q3,q4,k3,f3⟩:=hM2.next ((s.i:Int)+1) (by dsimp only;omega)
 have e0:IntKind.i64.wrap ((s.i:Int)+1)=(s.i:Int)+1:=IntWalk.i64_in _ (by have:=hs.len;omega)
 have H3:=hid q3
 have H4:=hid (((Stay.of_below hb01).trans q2).trans q4)
 dsimp only at k3
 clear q1 q2 q3 q4 hM2 hX1 hT1 hX hT hb01 hb1
 go_wp2_with fail
 first|go_end0|refine bodyPost_ret (results_none rfl _ _ _) rfl ?_
 exact ⟨rfl,O,H3.out,H4.out⟩
set_option maxHeartbeats 4000000 in
set_option maxRecDepth 20000 in
theorem g_assigned {W:World} (hM:Mem d L size lv s O W) (hs:Small L s) (ho:∃ o r,s.opn=o :: r):Calls Tryz.prog 147 #[ptr d] W (Does d L size lv s.i O W (execM L size .assigned s)):=by
 obtain ⟨o,r,ho⟩:=ho
 have hrl:r.length≤1000000:=by have:=hs.opn;rw [ho,List.length_cons] at this;omega
 obtain ⟨tw,tf,te,y,hP,_,hyt,c1⟩:=next_txt hM hs.i
 have hfl:=fun X=>fld1 (.int .i64 tw) (.string y) (.int .i64 tf) (.int .i64 te) X
 have hlt:¬ y.toList=[]→s.i+1≤L.length:=fun hne=>by
  rcases Nat.lt_or_ge s.i L.length with h|h
  ·exact h
  ·exact absurd (by rw [← hyt,tok_out size (by omega)]) hne
 simp only [execM,hP,ho]
 clear hP hyt
 obtain ⟨b0,h⟩:∃ b,(y.toList==[61])=b:=⟨_,rfl⟩
 cases b0 with
 | true =>
  have isT_le:=hlt (by intro hn;rw [hn] at h;cases h)
  clear hlt
  rw [if_pos (show (y.toList==[61])=true from h)]
  go_enter Tryz.func147,Tryz.ntmps147
  go_wp2_with fail
  refine c1.mono ?_
  rintro e v0 ⟨rfl,hb0⟩
  dsimp only
  obtain ⟨tv,ov,bs,us,xs,hX⟩:=hM.below hb0
  obtain ⟨g,c,kv,ks,us1,bs1,hT⟩:=top_of hX ho
  have cT:=top_any hX hT hrl (Below.refl _ _)
  go_wp2_with fail
  refine cT.mono ?_
  rintro e v1 ⟨rfl,m0,rfl⟩
  dsimp only
  have hX1:=hX.below (drewB' v0 m0)
  have hT1:=hT.drewN m0
  obtain ⟨q1,q2⟩:=put_kind hX1 ho hT1 kAssign ⟨#[97,115,115,105,103,110]⟩ rfl
  have k1:=hT1.cell 0 _ rfl
  rw [Nat.add_zero] at k1
  have f1:=hT1.frozen (r.length*6)
  have hM2:Mem d L size lv _ O _:=⟨_,_,_,_,_,q1⟩
  obtain ⟨q3,q4,k3,f3⟩:=hM2.next ((s.i:Int)+1) (by dsimp only;omega)
  have e0:IntKind.i64.wrap ((s.i:Int)+1)=(s.i:Int)+1:=IntWalk.i64_in _ (by have:=hs.i;have:=hs.len;omega)
  have H3:=hid q3
  have H4:=hid (((Stay.of_below hb0).trans (Stay.of_below (drewB' v0 m0))).trans (q2.trans q4))
  dsimp only at k3
  clear q1 q2 q3 q4 hM2 hX1 hT1 hX hT hb0
  go_wp2_with fail
  refine (g_expr H3.out ⟨isT_le,hs.len,hs.todo,by simpa [ho] using hs.opn,fun p hp=>by
   rcases List.mem_cons.1 hp with rfl|hp
   ·exact hs.kids o (by rw [ho];exact List.mem_cons_self)
   ·exact hs.kids p (by rw [ho];exact List.mem_cons_of_mem _ hp)⟩).mono ?_
  rintro e v9 ⟨rfl,O9,hM9,hS9⟩
  dsimp only
  (try go_wp2_with fail)
  first|go_end0|refine bodyPost_ret (results_none rfl _ _ _) rfl ?_
  exact ⟨rfl,O9,hM9,H4.out.trans hS9⟩
 | false =>
 rw [if_neg (show ¬ (y.toList==[61])=true by rw [show (y.toList==[61])=false from h];decide)]
 have h1:=h
 clear h
 obtain ⟨b0,h⟩:∃ b,(y.toList==[58,61])=b:=⟨_,rfl⟩
 cases b0 with
 | true =>
  have isT_le:=hlt (by intro hn;rw [hn] at h;cases h)
  clear hlt
  rw [if_pos (show (y.toList==[58,61])=true from h)]
  go_enter Tryz.func147,Tryz.ntmps147
  go_wp2_with fail
  refine c1.mono ?_
  rintro e v0 ⟨rfl,hb0⟩
  dsimp only
  obtain ⟨tv,ov,bs,us,xs,hX⟩:=hM.below hb0
  obtain ⟨g,c,kv,ks,us1,bs1,hT⟩:=top_of hX ho
  have cT:=top_any hX hT hrl (Below.refl _ _)
  go_wp2_with fail
  refine cT.mono ?_
  rintro e v1 ⟨rfl,m0,rfl⟩
  dsimp only
  have hX1:=hX.below (drewB' v0 m0)
  have hT1:=hT.drewN m0
  obtain ⟨q1,q2⟩:=put_kind hX1 ho hT1 kDefine ⟨#[100,101,102,105,110,101]⟩ rfl
  have k1:=hT1.cell 0 _ rfl
  rw [Nat.add_zero] at k1
  have f1:=hT1.frozen (r.length*6)
  have hM2:Mem d L size lv _ O _:=⟨_,_,_,_,_,q1⟩
  obtain ⟨q3,q4,k3,f3⟩:=hM2.next ((s.i:Int)+1) (by dsimp only;omega)
  have e0:IntKind.i64.wrap ((s.i:Int)+1)=(s.i:Int)+1:=IntWalk.i64_in _ (by have:=hs.i;have:=hs.len;omega)
  have H3:=hid q3
  have H4:=hid (((Stay.of_below hb0).trans (Stay.of_below (drewB' v0 m0))).trans (q2.trans q4))
  dsimp only at k3
  clear q1 q2 q3 q4 hM2 hX1 hT1 hX hT hb0
  go_wp2_with fail
  refine (g_expr H3.out ⟨isT_le,hs.len,hs.todo,by simpa [ho] using hs.opn,fun p hp=>by
   rcases List.mem_cons.1 hp with rfl|hp
   ·exact hs.kids o (by rw [ho];exact List.mem_cons_self)
   ·exact hs.kids p (by rw [ho];exact List.mem_cons_of_mem _ hp)⟩).mono ?_
  rintro e v9 ⟨rfl,O9,hM9,hS9⟩
  dsimp only
  (try go_wp2_with fail)
  first|go_end0|refine bodyPost_ret (results_none rfl _ _ _) rfl ?_
  exact ⟨rfl,O9,hM9,H4.out.trans hS9⟩
 | false =>
 rw [if_neg (show ¬ (y.toList==[58,61])=true by rw [show (y.toList==[58,61])=false from h];decide)]
 go_enter Tryz.func147,Tryz.ntmps147
 go_wp2_with fail
 refine c1.mono ?_
 rintro e v0 ⟨rfl,hb0⟩
 dsimp only
 have hM0:=hM.below hb0
 go_wp2_with fail
 first|go_end0|refine bodyPost_ret (results_none rfl _ _ _) rfl ?_
 exact ⟨rfl,O,hM0,.of_below hb0⟩
set_option maxHeartbeats 4000000 in
set_option maxRecDepth 20000 in
theorem g_called {W:World} (hM:Mem d L size lv s O W) (hs:Small L s) (ho:∃ o r,s.opn=o :: r):Calls Tryz.prog 159 #[ptr d] W (Does d L size lv s.i O W (execM L size .called s)):=by
 obtain ⟨o,r,ho⟩:=ho
 have hrl:r.length≤1000000:=by have:=hs.opn;rw [ho,List.length_cons] at this;omega
 have hmf:=hmf
 have c1:=is_any hM hs.i [40]
 simp only [execM]
 cases h0:isP L size [40] s.i with
 | false =>
  rw [h0] at c1
  rw [if_neg (by decide)]
  go_enter Tryz.func159,Tryz.ntmps159
  go_wp2_with fail
  refine c1.mono ?_
  rintro e v0 ⟨rfl,hb0⟩
  dsimp only
  have hM0:=hM.below hb0
  go_wp2_with fail
  first|go_end0|refine bodyPost_ret (results_none rfl _ _ _) rfl ?_
  exact ⟨rfl,O,hM0,.of_below hb0⟩
 | true =>
 rw [h0] at c1
 rw [if_pos rfl,ho]
 dsimp only
 have e0:IntKind.i64.wrap ((s.i:Int)+1)=(s.i:Int)+1:=IntWalk.i64_in _ (by have:=hs.i;have:=hs.len;omega)
 obtain ⟨yo,hyo,hyt⟩:=bstr_str o.t
 by_cases h1:o.t=kNew
 ·rw [if_pos h1]
  have h2:(yo.toList==[110,101,119])=true:=by rw [← hyt,h1];rfl
  clear h1 hyt
  go_enter Tryz.func159,Tryz.ntmps159
  go_wp2_with fail
  refine c1.mono ?_
  rintro e v0 ⟨rfl,hb0⟩
  dsimp only
  have hM0:=hM.below hb0
  obtain ⟨q3,q4,k3,f3⟩:=hM0.next ((s.i:Int)+1) (by omega)
  have H3:=hid q3
  have H4:=hid ((Stay.of_below hb0).trans q4)
  clear q3 q4 hM0 hb0
  go_wp2_with fail
  obtain ⟨tv,ov,bs,us,xs,hX⟩:=H3.out
  obtain ⟨g,c,kv,ks,us1,bs1,hT⟩:=top_of hX ho
  have cT:=top_any hX hT hrl (Below.refl _ _)
  clear k3 f3
  refine cT.mono ?_
  rintro e v1 ⟨rfl,m0,rfl⟩
  dsimp only
  generalize v0.setCell ⟨d,1,none⟩ (.int .i64 ((s.i:Int)+1))=w1 at H3 H4 hX hT cT ⊢
  have hX1:=hX.below (drewB' w1 m0)
  have hT1:=hT.drewN m0
  have k0:=hT1.cell 0 _ rfl
  rw [Nat.add_zero] at k0
  have f0:=hT1.frozen (r.length*6)
  have k1:=hT1.cell 1 _ rfl
  rw [hyo] at k1
  have f1:=hT1.frozen (r.length*6+1)
  obtain ⟨q1,q2⟩:=put_kind hX1 ho hT1 kNew ⟨#[110,101,119]⟩ rfl
  have ho2:({ s with i:=s.i+1,opn:={ o with k:=kNew } :: r }:St).opn={ o with k:=kNew } :: r:=rfl
  obtain ⟨g2,c2,kv2,ks2,us2,bs2,hT2⟩:=top_of q1 ho2
  have hgg:g2=g∧c2=c:=by have h1:=hT2.hov;rw [hT1.hov] at h1;simp only [Value.slice.injEq,Option.some.injEq,Addr.mk.injEq,and_true,true_and] at h1;exact ⟨h1.1.symm,h1.2.symm⟩
  obtain ⟨rfl,rfl⟩:=hgg
  obtain ⟨q3,q4⟩:=put_text q1 ho2 hT2 [] ⟨#[]⟩ rfl
  have k2:=hT2.cell 1 _ rfl
  have f2:=hT2.frozen (r.length*6+1)
  rw [show bstr ({ o with k:=kNew }:Open).t=yo from hyo] at k2
  have hM2:Mem d L size lv _ O _:=⟨_,_,_,_,_,q3⟩
  have hS2:=(H4.out.trans (Stay.of_below (drewB' w1 m0))).trans (q2.trans q4)
  clear cT
  go_wp2_with fail
  refine (word_make hM2 [41]).mono ?_
  rintro e v21 ⟨p21,q21,rfl,hp21,hq21,hb21⟩
  dsimp only
  have hM21:=hM2.below hb21
  go_wp2_with fail
  refine (then_lit hM21 [.m .typeOf,.word [41]] [.func (.func 136) #[ptr d] #[],.func (.func 131) #[] #[ptr p21,ptr q21]] 2 rfl ⟨_,_,rfl,rfl,⟨_,_,rfl,⟨p21,q21,rfl,hp21,hq21⟩,rfl⟩⟩ (by decide) hs.todo).mono ?_
  rintro e v22 ⟨rfl,O22,hM22,hS22⟩
  dsimp only
  (try go_wp2_with fail)
  first|go_end0|refine bodyPost_ret (results_none rfl _ _ _) rfl ?_
  exact ⟨rfl,O22,hM22,((hS2.trans (Stay.of_below hb21)).trans hS22)⟩
 ·rw [if_neg h1]
  by_cases h3:o.t=kMake
  ·rw [if_pos h3]
   have h2:(yo.toList==[110,101,119])=false:=by rw [← hyt,h3];rfl
   have h4:(yo.toList==[109,97,107,101])=true:=by rw [← hyt,h3];rfl
   clear h1 h3 hyt
   go_enter Tryz.func159,Tryz.ntmps159
   go_wp2_with fail
   refine c1.mono ?_
   rintro e v0 ⟨rfl,hb0⟩
   dsimp only
   have hM0:=hM.below hb0
   obtain ⟨q3,q4,k3,f3⟩:=hM0.next ((s.i:Int)+1) (by omega)
   have H3:=hid q3
   have H4:=hid ((Stay.of_below hb0).trans q4)
   clear q3 q4 hM0 hb0
   go_wp2_with fail
   obtain ⟨tv,ov,bs,us,xs,hX⟩:=H3.out
   obtain ⟨g,c,kv,ks,us1,bs1,hT⟩:=top_of hX ho
   have cT:=top_any hX hT hrl (Below.refl _ _)
   clear k3 f3
   refine cT.mono ?_
   rintro e v1 ⟨rfl,m0,rfl⟩
   dsimp only
   generalize v0.setCell ⟨d,1,none⟩ (.int .i64 ((s.i:Int)+1))=w1 at H3 H4 hX hT cT ⊢
   have hX1:=hX.below (drewB' w1 m0)
   have hT1:=hT.drewN m0
   have k0:=hT1.cell 0 _ rfl
   rw [Nat.add_zero] at k0
   have f0:=hT1.frozen (r.length*6)
   have k1:=hT1.cell 1 _ rfl
   rw [hyo] at k1
   have f1:=hT1.frozen (r.length*6+1)
   obtain ⟨q1,q2⟩:=put_kind hX1 ho hT1 kMake ⟨#[109,97,107,101]⟩ rfl
   have ho2:({ s with i:=s.i+1,opn:={ o with k:=kMake } :: r }:St).opn={ o with k:=kMake } :: r:=rfl
   obtain ⟨g2,c2,kv2,ks2,us2,bs2,hT2⟩:=top_of q1 ho2
   have hgg:g2=g∧c2=c:=by have h1:=hT2.hov;rw [hT1.hov] at h1;simp only [Value.slice.injEq,Option.some.injEq,Addr.mk.injEq,and_true,true_and] at h1;exact ⟨h1.1.symm,h1.2.symm⟩
   obtain ⟨rfl,rfl⟩:=hgg
   obtain ⟨q3,q4⟩:=put_text q1 ho2 hT2 [] ⟨#[]⟩ rfl
   have k2:=hT2.cell 1 _ rfl
   have f2:=hT2.frozen (r.length*6+1)
   rw [show bstr ({ o with k:=kMake }:Open).t=yo from hyo] at k2
   have hM2:Mem d L size lv _ O _:=⟨_,_,_,_,_,q3⟩
   have hS2:=(H4.out.trans (Stay.of_below (drewB' w1 m0))).trans (q2.trans q4)
   clear cT
   go_wp2_with fail
   refine (word_make hM2 [44]).mono ?_
   rintro e v21 ⟨p21,q21,rfl,hp21,hq21,hb21⟩
   dsimp only
   have hM21:=hM2.below hb21
   go_wp2_with fail
   refine (word_make hM21 [41]).mono ?_
   rintro e v22 ⟨p22,q22,rfl,hp22,hq22,hb22⟩
   dsimp only
   replace hp21:=hp21.below hb22
   replace hq21:=hq21.below hb22
   have hM22:=hM21.below hb22
   go_wp2_with fail
   refine (then_lit hM22 [.m .typeOf,.word [44],.m .expr,.word [41]] [.func (.func 136) #[ptr d] #[],.func (.func 131) #[] #[ptr p21,ptr q21],.func (.func 146) #[ptr d] #[],.func (.func 131) #[] #[ptr p22,ptr q22]] 4 rfl ⟨_,_,rfl,rfl,⟨_,_,rfl,⟨p21,q21,rfl,hp21,hq21⟩,⟨_,_,rfl,rfl,⟨_,_,rfl,⟨p22,q22,rfl,hp22,hq22⟩,rfl⟩⟩⟩⟩ (by decide) hs.todo).mono ?_
   rintro e v23 ⟨rfl,O23,hM23,hS23⟩
   dsimp only
   (try go_wp2_with fail)
   first|go_end0|refine bodyPost_ret (results_none rfl _ _ _) rfl ?_
   exact ⟨rfl,O23,hM23,(((hS2.trans (Stay.of_below hb21)).trans (Stay.of_below hb22)).trans hS23)⟩
  ·rw [if_neg h3]
   have h2:(yo.toList==[110,101,119])=false:=by rw [← hyt];exact beq_eq_false_iff_ne.2 h1
   have h4:(yo.toList==[109,97,107,101])=false:=by rw [← hyt];exact beq_eq_false_iff_ne.2 h3
   clear h1 h3 hyt
   go_enter Tryz.func159,Tryz.ntmps159
   go_wp2_with fail
   refine c1.mono ?_
   rintro e v0 ⟨rfl,hb0⟩
   dsimp only
   have hM0:=hM.below hb0
   obtain ⟨q3,q4,k3,f3⟩:=hM0.next ((s.i:Int)+1) (by omega)
   have H3:=hid q3
   have H4:=hid ((Stay.of_below hb0).trans q4)
   clear q3 q4 hM0 hb0
   go_wp2_with fail
   obtain ⟨tv,ov,bs,us,xs,hX⟩:=H3.out
   obtain ⟨g,c,kv,ks,us1,bs1,hT⟩:=top_of hX ho
   have cT:=top_any hX hT hrl (Below.refl _ _)
   clear k3 f3
   refine cT.mono ?_
   rintro e v1 ⟨rfl,m0,rfl⟩
   dsimp only
   generalize v0.setCell ⟨d,1,none⟩ (.int .i64 ((s.i:Int)+1))=w1 at H3 H4 hX hT cT ⊢
   have hX1:=hX.below (drewB' w1 m0)
   have hT1:=hT.drewN m0
   have k0:=hT1.cell 0 _ rfl
   rw [Nat.add_zero] at k0
   have f0:=hT1.frozen (r.length*6)
   have k1:=hT1.cell 1 _ rfl
   rw [hyo] at k1
   have f1:=hT1.frozen (r.length*6+1)
   obtain ⟨q1,q2⟩:=put_kind hX1 ho hT1 kCall ⟨#[99,97,108,108]⟩ rfl
   have hM2:Mem d L size lv _ O _:=⟨_,_,_,_,_,q1⟩
   have hS2:=(H4.out.trans (Stay.of_below (drewB' w1 m0))).trans q2
   clear cT
   go_wp2_with fail
   refine (commas_make hM2 146).mono ?_
   rintro e v21 ⟨p21,q21,rfl,hp21,hq21,hb21⟩
   dsimp only
   have hM21:=hM2.below hb21
   go_wp2_with fail
   refine (word_make hM21 [41]).mono ?_
   rintro e v22 ⟨p22,q22,rfl,hp22,hq22,hb22⟩
   dsimp only
   replace hp21:=hp21.below hb22
   replace hq21:=hq21.below hb22
   have hM22:=hM21.below hb22
   go_wp2_with fail
   refine (then_lit hM22 [.commas .expr,.word [41]] [.func (.func 142) #[] #[ptr p21,ptr q21],.func (.func 131) #[] #[ptr p22,ptr q22]] 2 rfl ⟨_,_,rfl,⟨p21,q21,rfl,hp21,hq21⟩,⟨_,_,rfl,⟨p22,q22,rfl,hp22,hq22⟩,rfl⟩⟩ (by decide) hs.todo).mono ?_
   rintro e v23 ⟨rfl,O23,hM23,hS23⟩
   dsimp only
   (try go_wp2_with fail)
   first|go_end0|refine bodyPost_ret (results_none rfl _ _ _) rfl ?_
   exact ⟨rfl,O23,hM23,(((hS2.trans (Stay.of_below hb21)).trans (Stay.of_below hb22)).trans hS23)⟩
end
end Go.Proofs.YtojoahlpgmnbnaaGreatDoor.K
namespace Go.Proofs.YtojoahlpgmnbnaaGreatDoor.K
open Go.RowKit
open Go.Lib hiding intOf
open U S T
section
variable {d:Nat} {L:List TokP} {size:Nat} {lv:Value} {s:St} {O:Nat→Prop}
theorem kids_row {W:World} {R:Nat→Prop} {kv:Value} {ks:List Value} {l:List Pt} (h:W.ownsRow 0 49 5 kv l.length ks) (hp:PartsIn W R l ks) (hR:∀ k,kv.ownBlock=some k→R k) (k t:By) (f e:Int):KidsIn W R (.mk k t f e l) kv:=by
 rcases h.2 with ⟨rfl,h0⟩|⟨g,cap,cur,rfl,_,h3,h4,_,h6,h7⟩
 ·have:l=[]:=List.length_eq_zero_iff.1 h0
  subst this
  exact ⟨none,0,rfl,Nat.le_refl _,.inl rfl⟩
 ·refine ⟨_,cap,rfl,h4,.inr ⟨g,0,ks,rfl,hR g rfl,fun j u hj=>?_,hp⟩⟩
  rw [Nat.zero_add,h.cellAt j (by rw [← h.1];exact (List.getElem?_eq_some_iff.1 hj).1)]
  exact hj
theorem pop_mem {W:World} {tv ov kv:Value} {bs bs1:List (Option Nat)} {us xs us1 ks:List Value} {o a:Open} {r:List Open} {g c:Nat} (hM:MemX d L size lv s O tv ov bs us xs W) (hs:s.opn=o :: a :: r) (hT:TopAt d O o (a :: r) ov bs xs W g c kv ks us1 bs1) :
  ∃ O',MemX d L size lv { s with opn:=a :: r } O' tv (.slice (some ⟨g,0,none⟩) (r.length+1) c) bs1 us us1 (W.setCell ⟨d,3,none⟩ (.slice (some ⟨g,0,none⟩) (r.length+1) c))∧Stay O O' W (W.setCell ⟨d,3,none⟩ (.slice (some ⟨g,0,none⟩) (r.length+1) c)) ∧
   (W.setCell ⟨d,3,none⟩ (.slice (some ⟨g,0,none⟩) (r.length+1) c)).ownsRow 0 49 5 kv o.kids.length ks∧PartsIn (W.setCell ⟨d,3,none⟩ (.slice (some ⟨g,0,none⟩) (r.length+1) c)) (Fr O' (W.setCell ⟨d,3,none⟩ (.slice (some ⟨g,0,none⟩) (r.length+1) c))) o.kids ks ∧
   (∀ k,kv.ownBlock=some k→Fr O' (W.setCell ⟨d,3,none⟩ (.slice (some ⟨g,0,none⟩) (r.length+1) c)) k)∧W.cell? ⟨d,3,none⟩=some ov∧W.frozen? ⟨d,3,none⟩=false:=by
 have hb:=hM.blk
 have hdl:d<W.heap.size:=(Array.getElem?_eq_some_iff.1 hb).1
 obtain ⟨W',hW'⟩:∃ W',W.setCell ⟨d,3,none⟩ (.slice (some ⟨g,0,none⟩) (r.length+1) c)=W':=⟨_,rfl⟩
 have hset:∀ k,k≠d→W'.heap[k]?=W.heap[k]?:=fun k hk=>by rw [← hW'];exact Below.heap_setCell _ _ _ _ hk
 have hbl':W'.heap[d]?=some (.cells #[lv,.int .i64 s.i,tv,.slice (some ⟨g,0,none⟩) (r.length+1) c] 123 (0,0)):=by rw [← hW'];exact Go.Joins.block_setCell hb _
 have hsz:W'.heap.size=W.heap.size:=by rw [← hW'];simp
 have ne:∀ {k:Nat} {t:TypeId},Ty W k t→t≠123→k≠d:=fun h1 h2 e=>by rw [e] at h1;exact h2 (h1.one ⟨_,_,hb⟩)
 have hOd:O d:=(hM.own d).2 (.inl rfl)
 have hOg:O g:=(hM.own g).2 (.inr (.inr (.inl (by rw [hT.hov];rfl))))
 rw [hW']
 have hS:Stay O (fun k=>k=d∨tv.ownBlock=some k∨(Value.slice (some ⟨g,0,none⟩) (r.length+1) c).ownBlock=some k∨some k∈bs1) W W':=by
  refine ⟨by rw [← hW'];rfl,by rw [← hW'];rfl,by rw [← hW'];rfl,by omega,?_,fun k hk hO=>hset k (fun e=>hO (e ▸ hOd))⟩
  rintro k (rfl|h1|h1|h1)
  ·exact .inl hOd
  ·exact .inl ((hM.own k).2 (.inr (.inl h1)))
  ·obtain rfl:g=k:=by simpa [Value.ownBlock] using h1
   exact .inl hOg
  ·exact .inl ((hM.own k).2 (.inr (.inr (.inr (by rw [hT.hbs];exact List.mem_cons_of_mem _ h1)))))
 have hR:=hM.opnR
 rw [hs,hT.hov,hT.hxs] at hR
 have hkn:∀ k,kv.ownBlock=some k→¬ (k=d∨tv.ownBlock=some k∨(Value.slice (some ⟨g,0,none⟩) (r.length+1) c).ownBlock=some k∨some k∈bs1):=by
  rintro k hk (h1|h1|h1|h1)
  ·exact ne (owns_ty hT.own hk) (by decide) h1
  ·exact absurd ((owns_ty hT.own hk).one (owns_ty hM.todoR h1)) (by decide)
  ·obtain rfl:g=k:=by simpa [Value.ownBlock] using h1
   exact absurd ((owns_ty hT.own hk).one hT.ty) (by decide)
  ·exact hT.apart.1 k hk h1
 have hown':=owns_at hT.own (fun k hk=>hset k (ne (owns_ty hT.own hk) (by decide)))
 have hfr:∀ k,kv.ownBlock=some k→Fr (fun k=>k=d∨tv.ownBlock=some k∨(Value.slice (some ⟨g,0,none⟩) (r.length+1) c).ownBlock=some k∨some k∈bs1) W' k:=fun k hk=>by
  obtain ⟨cs,fr,h⟩:=owns_ty hown' hk
  exact ⟨(Array.getElem?_eq_some_iff.1 h).1,hkn k hk,_,h,rfl⟩
 refine ⟨_,⟨hbl',hM.words.stay hS,owns_at hM.todoR (fun k hk=>hset k (ne (owns_ty hM.todoR hk) (by decide))),hM.todo.stay hS,?_,OpensIn.stay hS hT.rest (fun k hk=>hset k (ne (opens_ty hT.rest hk) (by decide))),hT.apart.2,fun k=>Iff.rfl⟩,hS,hown',parts_stay hS hT.parts,hfr,by simp [World.cell?,hb],by simp [World.frozen?,hb]⟩
 exact owns_at (owns_take hR hT.len) (fun k hk=>hset k (fun e=>hT.ne ((Option.some.inj hk).trans e)))
theorem parts_at {W:World} {R:Nat→Prop}:∀ {l:List Pt} {xs:List Value} {i:Nat} {q:Pt},PartsIn W R l xs→l[i]?=some q→∃ qv,KidsIn W R q qv∧∀ j,j<5→xs[i*5+j]?=(five q qv)[j]?
 | [],_,i,q,_,h=>by simp at h
 | p :: r,xs,0,q,⟨pv,rest,h1,h2,_⟩,h=>by
  obtain rfl:p=q:=by simpa using h
  exact ⟨pv,h2,fun j hj=>by rw [h1,Nat.zero_mul,Nat.zero_add,List.getElem?_append_left (by rw [five_length];exact hj)]⟩
 | p :: r,xs,i+1,q,⟨pv,rest,h1,_,h3⟩,h=>by
  obtain ⟨qv,h4,h5⟩:=parts_at h3 (by simpa using h)
  exact ⟨qv,h4,fun j hj=>by rw [h1,List.getElem?_append_right (by rw [five_length];omega),five_length,show (i+1)*5+j - 5=i*5+j by omega];exact h5 j hj⟩
theorem spanE_last (l:List Pt) (k t:By) (f e:Int) (ks:List Pt) (h:l.getLast?=some (.mk k t f e ks)):spanE l=e:=by unfold spanE;rw [h]
set_option maxHeartbeats 4000000 in
set_option maxRecDepth 20000 in
theorem span_any {W:World} {R:Nat→Prop} (l:List Pt) (kv:Value) (ks:List Value) (hown:W.ownsRow 0 49 5 kv l.length ks) (hp:PartsIn W R l ks) (hl:l.length≤1000000) :
  Calls Tryz.prog 138 #[kv] W fun e W'=>e=.returned (.tuple #[.int .i64 (spanF l),.int .i64 (spanE l)])∧∃ m,W'=W.drewN m:=by
 by_cases h0:l.length=0
 ·obtain ⟨ka,kc,rfl⟩:=owns_len hown
  have:l=[]:=List.length_eq_zero_iff.1 h0
  subst this
  clear hown hp
  go_enter Tryz.func138,Tryz.ntmps138
  go_wp2_with fail
  go_ret2
  exact ⟨rfl,0,rfl⟩
 ·obtain ⟨k,hk⟩:∃ k,l.length=k+1:=⟨l.length - 1,by omega⟩
  obtain ⟨gk,kc,rfl,_,_⟩:=hown.form (by omega)
  obtain ⟨q0,hq0⟩:∃ q,l[0]?=some q:=⟨l[0],List.getElem?_eq_getElem (by omega)⟩
  obtain ⟨q1,hq1⟩:∃ q,l[k]?=some q:=⟨l[k],List.getElem?_eq_getElem (by omega)⟩
  obtain ⟨v0,_,e0⟩:=parts_at hp hq0
  obtain ⟨v1,_,e1⟩:=parts_at hp hq1
  have c0:W.cell? ⟨gk,2,none⟩=(five q0 v0)[2]?:=by rw [hown.cellAt 2 (by omega),← e0 2 (by omega)]
  have c1:W.cell? ⟨gk,k*5+3,none⟩=(five q1 v1)[3]?:=by rw [hown.cellAt (k*5+3) (by omega),← e1 3 (by omega)]
  obtain ⟨k0,t0,f0,x0,n0⟩:=q0
  obtain ⟨k1,t1,f1,x1,n1⟩:=q1
  have hF:spanF l=f0:=by
   cases l with
   | nil=>simp at hq0
   | cons a b=>obtain rfl:a=_:=by simpa using hq0
               rfl
  have hE:spanE l=x1:=spanE_last l k1 t1 f1 x1 n1 (by rw [List.getLast?_eq_getElem?,hk,Nat.add_sub_cancel];exact hq1)
  rw [hF,hE]
  replace c0:W.cell? ⟨gk,2,none⟩=some (.int .i64 f0):=c0
  replace c1:W.cell? ⟨gk,k*5+3,none⟩=some (.int .i64 x1):=c1
  obtain ⟨n,hn⟩:∃ n,l.length=n:=⟨_,rfl⟩
  rw [hn] at hk hl ⊢
  have hk0:(0:Int)≤(k:Int):=by omega
  have hkn:(k:Int)<(n:Int):=by omega
  have hkn':k<n:=by omega
  have hpos:0<n:=by omega
  have hne:((n:Int)==0)=false:=by simp;omega
  have hi1:IntKind.i64.wrap ((n:Int) - 1)=(k:Int):=(IntWalk.i64_in _ (by omega)).trans (by omega)
  clear hown hp hq0 hq1 e0 e1 hF hE hn hk h0
  go_enter Tryz.func138,Tryz.ntmps138
  go_upto_region 3 with fail
  go_quiet (fail)
  go_wp2_with fail
  go_ret2
  exact ⟨rfl,_,rfl⟩
theorem MemX.wordAt {W:World} {tv ov:Value} {bs:List (Option Nat)} {vs xs:List Value} (h:MemX d L size lv s O tv ov bs vs xs W) {j:Nat} (hj:j≤L.length):∃ g off cap n,n=L.length+1∧g<W.heap.size∧W.cell? ⟨d,0,none⟩=some (.slice (some ⟨g,off,none⟩) n cap)∧W.cell? ⟨d,1,none⟩=some (.int .i64 s.i) ∧
  W.cell? ⟨g,off+j*4+3,none⟩=some (.int .i64 (tok L size j).e):=by
 obtain ⟨g,off,cap,rfl,h2,h3⟩:=h.words
 have hl:j<(L++[endT size]).length:=by simp;omega
 have ht:(L++[endT size])[j]=tok L size j:=by
  by_cases h1:j<L.length
  ·rw [tok_in size h1,List.getElem_append_left h1]
  ·rw [tok_out size h1,List.getElem_append_right (by omega)];simp [endT]
 have h4:=tok_at j h3 hl
 rw [ht] at h4
 have hb:=h.blk
 exact ⟨g,off,cap,L.length+1,rfl,h2.1,by simp [World.cell?,hb],by simp [World.cell?,hb],h4.2.2.2⟩
end
end Go.Proofs.YtojoahlpgmnbnaaGreatDoor.K
