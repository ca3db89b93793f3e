/- What the claim needs of the texts HPart3. -/
import Derived.Test.YtmclaaonlhnbmaaGreatDoorSOp
import Derived.Test.YtmclaaonlhnbmaaGreatDoorS13
namespace Go.Proofs.YtmclaaonlhnbmaaGreatDoor.H
open Go.RowKit
open Go.Lib hiding intOf
open U S T K
open Go.Proofs.YtmclaaonlhnbmaaGreatDoor.J (arg wtP wtL kids_row kid_at KidAt new_block kids_below Pt.ind wtL_mem wtL_length)
theorem enter_part:∀ args X,(callFunc 28 args).run Tryz.prog X=.ok (.enter 28 args) X:=fun _ _=>by kernel_rfl
theorem enter_decl:∀ args X,(callFunc 107 args).run Tryz.prog X=.ok (.enter 107 args) X:=fun _ _=>by kernel_rfl
set_option maxHeartbeats 4000000 in
set_option maxRecDepth 20000 in
theorem block_any {d m ind:Nat} {bs:By} {k t:By} {f e:Int} {ks:List Pt} {lv:Value} {cs:Array Value} {W:World} (hA:AllC d m ks) (hcs:Value.agg cs=arg (.mk k t f e ks) lv) (h:Wr d m ind bs W) (hv:Lies d (.mk k t f e ks) lv W) (hw:wtP (.mk k t f e ks)≤1099511627776) (hd:ind+deep (.mk k t f e ks)≤1099511627776) (hl:bs.length+(byt (bodyP pcs ind t ks .block)).length≤140737488355328) :
  Calls Tryz.prog 62 #[.pointer (some ⟨d,0,none⟩),.agg cs] W (Writes d m ind bs W (byt (bodyP pcs ind t ks .block))):=by
 obtain ⟨kb,tb,n,a,c,rfl,hkb,htb,hn,rfl⟩:=cs_form hcs hv
 have hlb:n≤1099511627776:=by rw [← hn];rw [wtP] at hw;exact Nat.le_trans (wtL_length ks) (by omega)
 have hx:byt (bodyP pcs ind t ks .block)=byt (linesP ind (ks.map (pcs (ind+1)))):=rfl
 rw [hx] at hl ⊢
 clear hx hcs hkb htb hn
 go_enter Tryz.func62,Tryz.ntmps62
 go_upto_region 1 with fail
 obtain ⟨w1,hw1,hq1,hb1,hz1⟩:=new_block W (.cells #[.string kb,.string tb,.int .i64 f,.int .i64 e,.slice a n c] 25)
 rw [hw1]
 have HF:=hid (Fr.begin h hv hb1 hq1)
 clear hw1 hq1 hb1 hz1 hv h
 have c1:=fun X (hF:Fr d m ind bs (.mk k t f e ks) (.slice a n c) #[.string kb,.string tb,.int .i64 f,.int .i64 e,.slice a n c] W.heap.size W X)=>lines_any (about:=ind) ind (pcs (ind+1)) 28 enter_part (fun q hq lv' cs' X' ys h1 h2 h3 h4=>hA.one q hq lv' cs' X' ys (ind+1) h1 h2 h3 (by have:=wtL_mem hq;rw [wtP] at hw;omega) (by have:=deep_mem hq;rw [deep] at hd;omega) h4) hF.wr hF.lies hlb (by omega) hl
 have c2:=c1 w1.drew (HF.out.later (Below.refl _ _).drew)
 obtain ⟨⟨p0,p1,p2,p3,p4⟩,pf⟩:=J.cells_five HF.out.box
 obtain ⟨z2,z3,z4,z5⟩:=HF.out.wr.cells
 have HF1:=hid (HF.out.later (Below.refl _ _).drew)
 clear c1
 go_wp2_with fail
 go_region_with (refine c2.mono ?_;rintro e w2 ⟨rfl,hw2,hk2⟩)
 all_goals go_wp2_with fail
 all_goals go_end0
 all_goals exact ⟨rfl,hw2,HF1.out.kp.trans hk2⟩
set_option maxHeartbeats 4000000 in
set_option maxRecDepth 20000 in
theorem declared_any {d m ind:Nat} {bs:By} {p:Pt} {lv:Value} {cs:Array Value} {W:World} (hA:AllC d m (ksP p)) (hP:PartC d m p) (hind:ind=1) (hcs:Value.agg cs=arg p lv) (h:Wr d m ind bs W) (hv:Lies d p lv W) (hw:wtP p≤1099511627776) (hd:ind+deep p≤1099511627776) (hl:bs.length+(byt (declared pcs p)).length≤140737488355328) :
  Calls Tryz.prog 107 #[.pointer (some ⟨d,0,none⟩),.agg cs] W (Writes d m ind bs W (byt (declared pcs p))):=by
 obtain ⟨k,t,f,e,ks⟩:=p
 have hcs':=hcs
 obtain ⟨kb,tb,n,a,c,rfl,hkb,htb,hn,rfl⟩:=cs_form hcs hv
 have e1:(kb.toList==kField)=decide (k=kField):=by rw [← hkb];exact tb_eq k kField
 unfold kField at e1
 have HV:=hid hcs'
 by_cases hk:k=[102,105,101,108,100]
 ·have hx:byt (declared pcs (.mk k t f e ks))=byt (bodyP pcs ind t ks .param):=by
   unfold declared
   rw [if_pos (show kindP (.mk k t f e ks)=kField from hk),hind];rfl
  rw [hx] at hl ⊢
  rw [decide_eq_true hk] at e1
  clear hx hcs hcs' hkb htb hn hk
  go_enter Tryz.func107,Tryz.ntmps107
  go_upto_region 1 with fail
  obtain ⟨w1,hw1,hq1,hb1,hz1⟩:=new_block W (.cells #[.string kb,.string tb,.int .i64 f,.int .i64 e,.slice a n c] 25)
  rw [hw1]
  have HF:=hid (Fr.begin h hv hb1 hq1)
  obtain ⟨⟨p0,p1,p2,p3,p4⟩,pf⟩:=J.cells_five hq1
  clear hw1 hq1 hb1 hz1 hv h
  have c1:=named_any hA HV.out HF.out.wr HF.out.lies hw hd hl
  go_wp2_with fail
  refine c1.mono ?_
  rintro e w3 ⟨rfl,hw3,hk3⟩
  have HF3:=hid (HF.out.step hw3 hk3)
  clear c1 hw3 hk3 p0 p1 p2 p3 p4 pf
  go_wp2_with fail
  go_end0
  exact ⟨rfl,HF3.out.wr,HF3.out.kp⟩
 ·have hx:byt (declared pcs (.mk k t f e ks))=showP ind (.mk k t f e ks):=by
   unfold declared
   rw [if_neg (show ¬ kindP (.mk k t f e ks)=kField from hk),hind];rfl
  rw [hx] at hl ⊢
  rw [decide_eq_false hk] at e1
  clear hx hcs hcs' hkb htb hn hk
  go_enter Tryz.func107,Tryz.ntmps107
  go_upto_region 1 with fail
  obtain ⟨w1,hw1,hq1,hb1,hz1⟩:=new_block W (.cells #[.string kb,.string tb,.int .i64 f,.int .i64 e,.slice a n c] 25)
  rw [hw1]
  have HF:=hid (Fr.begin h hv hb1 hq1)
  obtain ⟨⟨p0,p1,p2,p3,p4⟩,pf⟩:=J.cells_five hq1
  clear hw1 hq1 hb1 hz1 hv h
  have c1:=hP _ _ w1 bs ind HV.out HF.out.wr HF.out.lies hw hd hl
  go_wp2_with fail
  refine c1.mono ?_
  rintro e w3 ⟨rfl,hw3,hk3⟩
  have HF3:=hid (HF.out.step hw3 hk3)
  clear c1 hw3 hk3 p0 p1 p2 p3 p4 pf
  go_wp2_with fail
  go_end0
  exact ⟨rfl,HF3.out.wr,HF3.out.kp⟩
set_option maxHeartbeats 4000000 in
set_option maxRecDepth 20000 in
theorem typ_any {d m ind:Nat} {bs:By} {k t:By} {f e:Int} {ks:List Pt} {lv:Value} {cs:Array Value} {W:World} (hA:AllC d m ks) (hA2:∀ q∈ks,AllC d m (ksP q)) (hcs:Value.agg cs=arg (.mk k t f e ks) lv) (h:Wr d m ind bs W) (hv:Lies d (.mk k t f e ks) lv W) (hw:wtP (.mk k t f e ks)≤1099511627776) (hd:ind+deep (.mk k t f e ks)≤1099511627776) (hl:bs.length+(byt (bodyP pcs ind t ks .typ)).length≤140737488355328) :
  Calls Tryz.prog 57 #[.pointer (some ⟨d,0,none⟩),.agg cs] W (Writes d m ind bs W (byt (bodyP pcs ind t ks .typ))):=by
 obtain ⟨kb,tb,n,a,c,rfl,hkb,htb,hn,rfl⟩:=cs_form hcs hv
 have hlb:n≤1099511627776:=by rw [← hn];rw [wtP] at hw;exact Nat.le_trans (wtL_length ks) (by omega)
 have HTB:=hid htb
 have hx:byt (bodyP pcs ind t ks .typ)=([116,121,112,101,32]++(t++[32,115,116,114,117,99,116,32]))++byt (linesP 0 (ks.map (declared pcs))):=by simp [bodyP,byt_wd,byt_sp,kType,kStruct]
 rw [hx] at hl ⊢
 rw [List.length_append] at hl
 clear hx hcs hkb htb hn
 go_enter Tryz.func57,Tryz.ntmps57
 go_upto_region 1 with fail
 obtain ⟨w1,hw1,hq1,hb1,hz1⟩:=new_block W (.cells #[.string kb,.string tb,.int .i64 f,.int .i64 e,.slice a n c] 25)
 rw [hw1]
 have HF:=hid (Fr.begin h hv hb1 hq1)
 obtain ⟨⟨p0,p1,p2,p3,p4⟩,pf⟩:=J.cells_five hq1
 clear hw1 hq1 hb1 hz1 hv h
 have c1:=write3 HF.out.wr ⟨#[116,121,112,101,32]⟩ tb ⟨#[32,115,116,114,117,99,116,32]⟩ ([116,121,112,101,32]++(t++[32,115,116,114,117,99,116,32])) (by rw [← HTB.out];rfl) (by omega)
 go_wp2_with fail
 refine c1.mono ?_
 rintro e w2 ⟨rfl,hw2,hk2⟩
 replace HF:=hid (HF.out.step hw2 hk2)
 clear c1 hw2 hk2 p0 p1 p2 p3 p4 pf
 have c2:=lines_any (about:=ind) 0 (declared pcs) 107 enter_decl (fun q hq lv' cs' X' ys h1 h2 h3 h4=>declared_any (hA2 q hq) (hA.one q hq) rfl h1 h2 h3 (by have:=wtL_mem hq;rw [wtP] at hw;omega) (by have:=deep_mem hq;rw [deep] at hd;omega) h4) HF.out.wr HF.out.lies hlb (by omega) (by rw [List.length_append];omega)
 obtain ⟨⟨p0,p1,p2,p3,p4⟩,pf⟩:=J.cells_five HF.out.box
 go_wp2_with fail
 refine c2.mono ?_
 rintro e w3 ⟨rfl,hw3,hk3⟩
 have HF3:=hid (HF.out.step hw3 hk3)
 clear c2 hw3 hk3 p0 p1 p2 p3 p4 pf
 go_wp2_with fail
 go_end0
 exact ⟨rfl,by simpa [List.append_assoc] using HF3.out.wr,HF3.out.kp⟩
set_option maxHeartbeats 4000000 in
set_option maxRecDepth 20000 in
theorem func_any {d m ind:Nat} {bs:By} {k t:By} {f e:Int} {ks:List Pt} {lv:Value} {cs:Array Value} {W:World} (hA:AllC d m ks) (hA2:∀ i,AllC d m (ksP (kidAt ks i))) (hcs:Value.agg cs=arg (.mk k t f e ks) lv) (h:Wr d m ind bs W) (hv:Lies d (.mk k t f e ks) lv W) (hw:wtP (.mk k t f e ks)≤1099511627776) (hd:ind+deep (.mk k t f e ks)≤1099511627776) (hl:bs.length+(byt (bodyP pcs ind t ks .func)).length≤140737488355328) :
  Calls Tryz.prog 55 #[.pointer (some ⟨d,0,none⟩),.agg cs] W (Writes d m ind bs W (byt (bodyP pcs ind t ks .func))):=by
 obtain ⟨kb,tb,n,a,c,rfl,hkb,htb,hn,rfl⟩:=cs_form hcs hv
 have HTB:=hid htb
 have HV:=hid hcs
 obtain ⟨R,hR⟩:∃ R:By,byt (if ksP (kidAt ks 1)=[] then [] else pcs ind (kidAt (ksP (kidAt ks 1)) 0)++[.sp [32]])=R:=⟨_,rfl⟩
 have hx:byt (bodyP pcs ind t ks .func)=([102,117,110,99,32]++(t++[40]))++(byt (commas ((ksP (kidAt ks 0)).map (pcs ind)))++([41,32]++(R++showP ind (kidAt ks 2)))):=by
  rw [← hR];simp [bodyP,byt_wd,byt_sp,byt_app,kFunc,showP]
 obtain ⟨C,hC⟩:∃ C,byt (commas ((ksP (kidAt ks 0)).map (pcs ind)))=C:=⟨_,rfl⟩
 rw [hx] at hl ⊢
 rw [hC] at hl ⊢
 simp only [List.length_append,List.length_cons,List.length_nil] at hl
 have HR:=hid hR
 clear hx hcs hkb htb hn hR
 go_enter Tryz.func55,Tryz.ntmps55
 go_upto_region 1 with fail
 obtain ⟨w1,hw1,hq1,hb1,hz1⟩:=new_block W (.cells #[.string kb,.string tb,.int .i64 f,.int .i64 e,.slice a n c] 25)
 rw [hw1]
 have HF:=hid (Fr.begin h hv hb1 hq1)
 obtain ⟨⟨p0,p1,p2,p3,p4⟩,pf⟩:=J.cells_five hq1
 clear hw1 hq1 hb1 hz1 hv h
 have c1:=write3 HF.out.wr ⟨#[102,117,110,99,32]⟩ tb ⟨#[40]⟩ ([102,117,110,99,32]++(t++[40])) (by rw [← HTB.out];rfl) (by simp only [List.length_append,List.length_cons,List.length_nil];omega)
 go_wp2_with fail
 refine c1.mono ?_
 rintro e w2 ⟨rfl,hw2,hk2⟩
 replace HF:=hid (HF.out.step hw2 hk2)
 clear c1 hw2 hk2 p0 p1 p2 p3 p4 pf
 have c0:=kidOf_any (.mk k t f e ks) (.slice a n c) (fun g=>g<d) _ 0 HF.out.lies hw (by decide)
 rw [← HV.out] at c0
 obtain ⟨⟨p0,p1,p2,p3,p4⟩,pf⟩:=J.cells_five HF.out.box
 go_wp2_with fail
 refine c0.mono ?_
 rintro e w3 ⟨lv',rfl,hk3,hb3⟩
 replace HF:=hid (HF.out.later hb3)
 have hwt:=kidAt_wtP (.mk k t f e ks) 0
 have hdp:=kidAt_deep (.mk k t f e ks) 0
 have hA0:=(hA2 0).one
 change wtP (kidAt ks 0)≤_ at hwt
 change deep (kidAt ks 0)≤_ at hdp
 change KidsIn w3 _ (kidAt ks 0) lv' at hk3
 rw [show arg (kidAt (ksP (.mk k t f e ks)) 0) lv'=arg (kidAt ks 0) lv' from rfl]
 clear c0 hb3 p0 p1 p2 p3 p4 pf
 obtain ⟨q,hq⟩:∃ q,kidAt ks 0=q:=⟨_,rfl⟩
 rw [hq] at hwt hdp hA0 hk3 hC ⊢
 obtain ⟨k0,t0,f0,e0,l0⟩:=q
 obtain ⟨a0,c0',rfl⟩:=J.kids_form hk3
 have hwt2:=Nat.le_trans hwt hw
 have hdp2:ind+deep (.mk k0 t0 f0 e0 l0)≤1099511627776:=Nat.le_trans (Nat.add_le_add_left hdp ind) hd
 rw [wtP] at hwt2
 rw [deep] at hdp2
 change byt (commas (l0.map (pcs ind)))=C at hC
 have c2:=commas_any (l:=l0) (f:=f0) (e:=e0) (k:=k0) (t:=t0) (n:=l0.length) hA0 HF.out.wr hk3 (fun q hq=>by have:=wtL_mem hq;omega) (fun q hq=>by have:=deep_mem hq;omega) (by have:=wtL_length l0;omega) (by rw [hC];simp only [List.length_append,List.length_cons,List.length_nil];omega)
 rw [hC] at c2
 have hfld:=fun X:World=>(show (Instr.field 25 (.agg #[.string (bstr k0),.string (bstr t0),.int .i64 f0,.int .i64 e0,.slice a0 l0.length c0']) 4).run Tryz.prog X=.ok (.slice a0 l0.length c0') X by kernel_rfl)
 rw [show arg (.mk k0 t0 f0 e0 l0) (.slice a0 l0.length c0')=.agg #[.string (bstr k0),.string (bstr t0),.int .i64 f0,.int .i64 e0,.slice a0 l0.length c0'] from rfl]
 generalize bstr k0=kb0 at hfld ⊢
 generalize bstr t0=tb0 at hfld ⊢
 generalize l0.length=n0 at hfld c2 ⊢
 clear hC hwt hdp hwt2 hdp2 hA0 hk3 hq
 go_wp2_with fail
 refine c2.mono ?_
 rintro e w4 ⟨rfl,hw4,hk4⟩
 replace HF:=hid (HF.out.step hw4 hk4)
 clear c2 hw4 hk4 hfld
 have c3:=write1 HF.out.wr ⟨#[41,32]⟩ [41,32] rfl (by simp only [List.length_append,List.length_cons,List.length_nil];omega)
 go_wp2_with fail
 refine c3.mono ?_
 rintro e w5 ⟨rfl,hw5,hk5⟩
 replace HF:=hid (HF.out.step hw5 hk5)
 clear c3 hw5 hk5
 have c0:=kidOf_any (.mk k t f e ks) (.slice a n c) (fun g=>g<d) _ 1 HF.out.lies hw (by decide)
 rw [← HV.out] at c0
 obtain ⟨⟨p0,p1,p2,p3,p4⟩,pf⟩:=J.cells_five HF.out.box
 go_wp2_with fail
 refine c0.mono ?_
 rintro e w6 ⟨lv',rfl,hk6,hb6⟩
 replace HF:=hid (HF.out.later hb6)
 have hwt:=Nat.le_trans (kidAt_wtP (.mk k t f e ks) 1) hw
 have hdp:=Nat.le_trans (Nat.add_le_add_left (kidAt_deep (.mk k t f e ks) 1) ind) hd
 have hA1:=hA2 1
 change wtP (kidAt ks 1)≤_ at hwt
 change ind+deep (kidAt ks 1)≤_ at hdp
 change KidsIn w6 _ (kidAt ks 1) lv' at hk6
 rw [show arg (kidAt (ksP (.mk k t f e ks)) 1) lv'=arg (kidAt ks 1) lv' from rfl]
 have HR':=HR.out
 clear c0 hb6 p0 p1 p2 p3 p4 pf HR
 obtain ⟨q,hq⟩:∃ q,kidAt ks 1=q:=⟨_,rfl⟩
 rw [hq] at hwt hdp hA1 hk6 HR' ⊢
 have HRR:=hid HR'
 clear hq HR'
 obtain ⟨k0,t0,f0,e0,l0⟩:=q
 obtain ⟨a0,c0',rfl⟩:=J.kids_form hk6
 have HV1:=hid (show Value.agg #[.string (bstr k0),.string (bstr t0),.int .i64 f0,.int .i64 e0,.slice a0 l0.length c0']=arg (.mk k0 t0 f0 e0 l0) (.slice a0 l0.length c0') from rfl)
 rw [← HV1.out]
 have HK6:=hid hk6
 obtain ⟨n0,hn0⟩:∃ n,l0.length=n:=⟨_,rfl⟩
 rw [hn0] at HV1 ⊢
 have HN0:=hid hn0
 generalize bstr k0=kb0 at HV1 ⊢
 generalize bstr t0=tb0 at HV1 ⊢
 clear hk6 hn0
 go_upto_region 5 with fail
 obtain ⟨w7,hw7,hq7,hb7,_⟩:=new_block w6 (.cells #[.string kb0,.string tb0,.int .i64 f0,.int .i64 e0,.slice a0 n0 c0'] 25)
 rw [hw7]
 have hbd6:=HF.out.wr.bx.lt
 replace HF:=hid (HF.out.later hb7)
 have HK7:=hid (Lies.later (lv:=.slice a0 l0.length c0') HK6.out (hb7.mono (Nat.le_of_lt hbd6)))
 have HQ7:=hid hq7
 obtain ⟨⟨u0,u1,u2,u3,u4⟩,uf⟩:=J.cells_five hq7
 clear hw7 hb7 hq7 HK6
 have fin:∀ (X:World) (ys:By),Fr d m ind ys (.mk k t f e ks) (.slice a n c) #[.string kb,.string tb,.int .i64 f,.int .i64 e,.slice a n c] W.heap.size W X→ys.length+(showP ind (kidAt ks 2)).length≤140737488355328→Calls Tryz.prog 105 #[.pointer (some ⟨d,0,none⟩),.agg #[.string kb,.string tb,.int .i64 f,.int .i64 e,.slice a n c],.int .i64 2] X (Writes d m ind ys X (showP ind (kidAt ks 2))):=fun X ys hF hl=>kid_any (p:=.mk k t f e ks) 2 (hA.kid 2) HV.out hF.wr hF.lies hw hd (by decide) hl
 have FIN:=hid fin
 clear fin
 by_cases h0:l0=[]
 ·have hn00:n0=0:=by rw [← HN0.out,h0];rfl
  subst hn00
  have hg0:¬ (0:Nat)<0:=by omega
  have hR0:R=[]:=by rw [← HRR.out];rw [if_pos (show ksP (.mk k0 t0 f0 e0 l0)=[] from h0)];rfl
  subst hR0
  have c3:=FIN.out w7 _ HF.out (by simp only [List.length_append,List.length_cons,List.length_nil] at hl ⊢;omega)
  obtain ⟨⟨p0,p1,p2,p3,p4⟩,pf⟩:=J.cells_five HF.out.box
  go_wp2_with fail
  refine c3.mono ?_
  rintro e w8 ⟨rfl,hw8,hk8⟩
  have HF8:=hid (HF.out.step hw8 hk8)
  clear c3 hw8 hk8 p0 p1 p2 p3 p4 pf u0 u1 u2 u3 u4 uf
  go_wp2_with fail
  go_end0
  exact ⟨rfl,by simpa [List.append_assoc] using HF8.out.wr,HF8.out.kp⟩
 ·have hg0:0<n0:=by rw [← HN0.out];exact List.length_pos_iff.2 h0
  have hR0:R=showP ind (kidAt l0 0)++[32]:=by rw [← HRR.out];rw [if_neg (show ¬ ksP (.mk k0 t0 f0 e0 l0)=[] from h0)];simp [byt_app,byt_sp,byt_nil,showP,ksP]
  subst hR0
  simp only [List.length_append,List.length_cons,List.length_nil] at hl
  have c3:Calls Tryz.prog 105 _ _ (Writes d m ind _ _ (showP ind (kidAt l0 0))):=kid_any (p:=.mk k0 t0 f0 e0 l0) 0 (hA1.kid 0) HV1.out HF.out.wr (by rw [← HN0.out];exact HK7.out) hwt hdp (by decide) (by change _+(showP ind (kidAt l0 0)).length≤_;simp only [List.length_append,List.length_cons,List.length_nil];omega)
  go_wp2_with fail
  refine c3.mono ?_
  rintro e w8 ⟨rfl,hw8,hk8⟩
  replace HF:=hid (HF.out.step hw8 hk8)
  clear c3 hw8 hk8 u0 u1 u2 u3 u4 uf
  have c4:=write1 HF.out.wr ⟨#[32]⟩ [32] rfl (by simp only [List.length_append,List.length_cons,List.length_nil];omega)
  go_wp2_with fail
  refine c4.mono ?_
  rintro e w9 ⟨rfl,hw9,hk9⟩
  replace HF:=hid (HF.out.step hw9 hk9)
  clear c4 hw9 hk9
  have c5:=FIN.out w9 _ HF.out (by simp only [List.length_append,List.length_cons,List.length_nil];omega)
  obtain ⟨⟨p0,p1,p2,p3,p4⟩,pf⟩:=J.cells_five HF.out.box
  go_wp2_with fail
  refine c5.mono ?_
  rintro e w10 ⟨rfl,hw10,hk10⟩
  have HF10:=hid (HF.out.step hw10 hk10)
  clear c5 hw10 hk10 p0 p1 p2 p3 p4 pf
  go_wp2_with fail
  go_end0
  exact ⟨rfl,by simpa [List.append_assoc] using HF10.out.wr,HF10.out.kp⟩
end Go.Proofs.YtmclaaonlhnbmaaGreatDoor.H
