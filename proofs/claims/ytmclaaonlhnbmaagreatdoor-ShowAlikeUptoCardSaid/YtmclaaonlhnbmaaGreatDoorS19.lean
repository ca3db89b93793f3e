/- What the claim needs of the texts HLAlike. -/
import Derived.Test.YtmclaaonlhnbmaaGreatDoorSOp
import Derived.Test.YtmclaaonlhnbmaaGreatDoorS17
import Derived.Test.YtmclaaonlhnbmaaGreatDoorS16
import Derived.Test.YtmclaaonlhnbmaaGreatDoorS18
namespace Go.Proofs.YtmclaaonlhnbmaaGreatDoor.H
open Go.RowKit
open Go.Lib hiding intOf
open U S T K
open Go.Proofs.YtmclaaonlhnbmaaGreatDoor.J (arg wtP wtL kids_row kid_at KidAt new_block kids_below Pt.ind wtL_mem wtL_length sizeP size_any shiftP shiftL shift_any ShiftPost deep_wt)
theorem yields_eqb {ops:Array Oper} {S:World→Prop} {o:Oper} {a:Act} {p:Bool} (x y:Operand) (ho:o.op=.binOp .eql 4 x y 4) (hw:Region.wanted o (yielded ops a.tmps)=true) (hx:a.eval x=.bool p) (hy:a.eval y=.bool p):YieldsIf Tryz.prog ops S o (.bool true) a :=
 .inl ⟨hw,fun X _=>by
  unfold execOp
  simp only [ho,hx,hy]
  have hbb:∀ W:World,(binOp .eql 4 (.bool p) (.bool p)).run Tryz.prog W=.ok (.bool true) W:=fun W=>by
   simp [go_sem]
  have hg:∀ W:World,(eqGuard BinOp.eql 4 x y (.bool p) (.bool p)).run Tryz.prog W=.ok () W:=fun W=>by
   simp [go_sem,eqGuard]
  simp [hbb,hg,Result.andThen]⟩
mutual
theorem strip_shift (b:Int):∀ p,strip (shiftP b p)=strip p
 | .mk k t f e ks=>by rw [shiftP,strip,strip,strip_shiftL b ks]
theorem strip_shiftL (b:Int):∀ l,stripL (shiftL b l)=stripL l
 | []=>by rw [shiftL]
 | p :: r=>by rw [shiftL,stripL,stripL,strip_shift b p,strip_shiftL b r]
end
theorem alike_shift (b:Int) (p:Pt):alikeP p (shiftP b p)=true:=(alike_iff _ _).2 (strip_shift b p).symm
mutual
theorem wt_strip:∀ p,wtP (strip p)=wtP p
 | .mk k t f e ks=>by rw [strip,wtP,wtP,wt_stripL ks]
theorem wt_stripL:∀ l,wtL (stripL l)=wtL l
 | []=>rfl
 | p :: r=>by rw [stripL,wtL,wtL,wt_strip p,wt_stripL r]
end
theorem alike_wt {p q:Pt} (h:alikeP p q=true):wtP p=wtP q:=by rw [← wt_strip p,(alike_iff p q).1 h,wt_strip]
set_option maxHeartbeats 8000000 in
set_option maxRecDepth 20000 in
theorem alike_law (p q:Pt) (lv lv2:Value) (cs cs2:Array Value) (R R2:Nat→Prop) (w:World) (b:Int) (hcs:Value.agg cs=arg p lv) (hcs2:Value.agg cs2=arg q lv2) (hv:KidsIn w R p lv) (hv2:KidsIn w R2 q lv2) (hw:wtP p≤1048576) (hw2:wtP q≤1048576) (hT:Tabs w) (hG:MTab w) :
  Calls Tryz.prog 6 #[.agg cs,.agg cs2,.int .i64 b] w fun e w'=>e=.returned (.bool true)∧Below w.heap.size w w':=by
 have HA:=hid (fun X (hX:Below w.heap.size w X)=>alive_any X (hT.later hX) (hG.later hX))
 have cz1:=fun X (hX:Below w.heap.size w X)=>size_any p lv R X (kids_below hv hX) (by omega)
 have cz2:=fun X (hX:Below w.heap.size w X)=>size_any q lv2 R2 X (kids_below hv2 hX) (by omega)
 have cM:=fun X (hX:Below w.heap.size w X)=>shift_any p lv R X b (kids_below hv hX) (by omega)
 have hd1:=deep_wt p
 have hd2:=deep_wt q
 have hlp:=show_len p 0 hw (by omega)
 have hlq:=show_len q 0 hw2 (by omega)
 have hsp:=shape_wt p
 have hsq:=shape_wt q
 have cA:=fun X (hX:Below w.heap.size w X)=>alike_part p q lv lv2 cs cs2 R R2 X hcs hcs2 (kids_below hv hX) (kids_below hv2 hX) (by omega) (by omega)
 have cB:=fun X (hX:Below w.heap.size w X)=>alike_part q p lv2 lv cs2 cs R2 R X hcs2 hcs (kids_below hv2 hX) (kids_below hv hX) (by omega) (by omega)
 have cS1:=fun X (hX:Below w.heap.size w X)=>show_any p lv cs R X hcs (kids_below hv hX) (by omega) (by omega) hlp
 have cS2:=fun X (hX:Below w.heap.size w X)=>show_any q lv2 cs2 R2 X hcs2 (kids_below hv2 hX) (by omega) (by omega) hlq
 have cH1:=fun X (hX:Below w.heap.size w X)=>shape_any p lv cs R X hcs (kids_below hv hX) (by omega) (by omega)
 have cH2:=fun X (hX:Below w.heap.size w X)=>shape_any q lv2 cs2 R2 X hcs2 (kids_below hv2 hX) (by omega) (by omega)
 rw [alike_comm q p] at cB
 have hash:alikeP p (shiftP b p)=true:=alike_shift b p
 obtain ⟨P',hP'⟩:∃ x,shiftP b p=x:=⟨_,rfl⟩
 rw [hP'] at cM hash
 have hshow:=alike_show hash 0
 have hwt':=alike_wt hash
 have hdp':=alike_deep hash
 have cAm:=fun (X:World) lv' cs' R' (hX:Below w.heap.size w X) (h1:Value.agg cs'=arg P' lv') (h2:KidsIn X R' P' lv')=>alike_part p P' lv lv' cs cs' R R' X hcs h1 (kids_below hv hX) h2 (by omega) (by omega)
 have cSm:=fun (X:World) lv' cs' R' (h1:Value.agg cs'=arg P' lv') (h2:KidsIn X R' P' lv')=>show_any P' lv' cs' R' X h1 h2 (by omega) (by omega) (by rw [← hshow];exact hlp)
 rw [hash] at cAm
 rw [← hshow] at cSm
 have hsame:alikeP p q=true→showP 0 p=showP 0 q∧shapeP p=shapeP q:=fun h=>⟨alike_show h 0,alike_shape h⟩
 have hfm:∃ kb tb f e a n c,cs=#[.string kb,.string tb,.int .i64 f,.int .i64 e,.slice a n c]:=by
  obtain ⟨k,t,f,e,ks⟩:=p
  obtain ⟨kb,tb,n,a,c,h1,_⟩:=cs_form hcs (lies_lt _ _ hv)
  exact ⟨kb,tb,f,e,a,n,c,h1⟩
 obtain ⟨kb,tb,f,e,a,n,c,rfl⟩:=hfm
 have hfm:∃ kb tb f e a n c,cs2=#[.string kb,.string tb,.int .i64 f,.int .i64 e,.slice a n c]:=by
  obtain ⟨k,t,f,e,ks⟩:=q
  obtain ⟨kb,tb,n,a,c,h1,_⟩:=cs_form hcs2 (lies_lt _ _ hv2)
  exact ⟨kb,tb,f,e,a,n,c,h1⟩
 obtain ⟨kb2,tb2,f2,e2,a2,n2,c2,rfl⟩:=hfm
 rw [← hcs] at cz1 cM
 rw [← hcs2] at cz2
 obtain ⟨o,ho⟩:∃ o,alikeP p q=o:=⟨_,rfl⟩
 rw [ho] at cA cB hsame
 obtain ⟨z1,hz1⟩:∃ z,sizeP p=z:=⟨_,rfl⟩
 obtain ⟨z2,hz2⟩:∃ z,sizeP q=z:=⟨_,rfl⟩
 rw [hz1] at cz1
 rw [hz2] at cz2
 obtain ⟨x1,hx1⟩:∃ x,bstr (showP 0 p)=x:=⟨_,rfl⟩
 obtain ⟨x2,hx2⟩:∃ x,bstr (showP 0 q)=x:=⟨_,rfl⟩
 obtain ⟨y1,hy1⟩:∃ x,bstr (shapeP p)=x:=⟨_,rfl⟩
 obtain ⟨y2,hy2⟩:∃ x,bstr (shapeP q)=x:=⟨_,rfl⟩
 rw [hx1] at cS1 cSm
 rw [hx2] at cS2
 rw [hy1] at cH1
 rw [hy2] at cH2
 have hsame2:o=true→x1=x2∧y1=y2:=fun h=>⟨by rw [← hx1,← hx2,(hsame h).1],by rw [← hy1,← hy2,(hsame h).2]⟩
 have HZ1:=hid cz1
 have HZ2:=hid cz2
 have HM:=hid cM
 have HCA:=hid cA
 have HCB:=hid cB
 have HS1:=hid cS1
 have HS2:=hid cS2
 have HH1:=hid cH1
 have HH2:=hid cH2
 have HCM:=hid cAm
 have HSM:=hid cSm
 have HSA:=hid hsame2
 clear hsame hsame2 hx1 hx2 hy1 hy2 hz1 hz2 ho hcs hcs2 cz1 cz2 cM cA cB cS1 cS2 cH1 cH2 cAm cSm hshow hwt' hdp' hash hP' hsp hsq hlp hlq hd1 hd2 hw hw2 hv hv2 hT hG
 go_enter Tryz.func6,Tryz.ntmps6
 go_upto_region 1 with fail
 obtain ⟨w1,hw1,hq1,hb1,hz1⟩:=new_block w (.cells #[.string kb,.string tb,.int .i64 f,.int .i64 e,.slice a n c] 25)
 rw [hw1]
 obtain ⟨w2,hw2,hq2,hb2,hz2⟩:=new_block w1 (.cells #[.string kb2,.string tb2,.int .i64 f2,.int .i64 e2,.slice a2 n2 c2] 25)
 rw [hw2]
 have hs1:w1.heap.size=w.heap.size+1:=by rw [← hw1];simp
 have h12:=(hb2.block _ hz1).trans hq1
 have hb02:=hb1.trans (hb2.mono hb1.size)
 rw [hs1] at hq2 hz2
 have hz12:w.heap.size<w2.heap.size:=by omega
 have HBX:=hid (fun X (hX:Below w2.heap.size w2 X)=>And.intro ((hX.block _ hz12).trans h12) ((hX.block _ hz2).trans hq2))
 have HB2:=hid hb02
 clear hw1 hq1 hb1 hz1 hw2 hq2 hb2 hs1 h12 hb02 hz2 hz12
 obtain ⟨r1,r2⟩:=HBX.out w2 (Below.refl _ _)
 obtain ⟨⟨p0,p1,p2,p3,p4⟩,pf⟩:=J.cells_five r1
 have c1:=HZ1.out w2 HB2.out
 clear r1 r2
 go_wp2_with fail
 refine c1.mono ?_
 rintro e' w3 ⟨rfl,hb3⟩
 clear c1 p0 p1 p2 p3 p4 pf
 have HB3:=hid hb3
 clear hb3
 by_cases h1:400<z1
 ·have h1':(400:Int)<(z1:Int):=by omega
  go_wp2_with fail
  refine (HA.out w3 (HB2.out.trans (HB3.out.mono HB2.out.size))).mono ?_
  rintro e' w4 ⟨rfl,hb4⟩
  have HB4:=hid (HB2.out.trans ((HB3.out.trans (hb4.mono HB3.out.size)).mono HB2.out.size))
  clear hb4
  go_wp2_with fail
  go_ret
  exact ⟨rfl,HB4.out⟩
 ·have h1':¬ (400:Int)<(z1:Int):=by omega
  obtain ⟨r1,r2⟩:=HBX.out w3 HB3.out
  obtain ⟨⟨q0,q1,q2,q3,q4⟩,qf⟩:=J.cells_five r2
  have c2:=HZ2.out w3 (HB2.out.trans (HB3.out.mono HB2.out.size))
  clear r1 r2
  go_wp2_with fail
  refine c2.mono ?_
  rintro e' w4 ⟨rfl,hb4⟩
  replace HB3:=hid (HB3.out.trans (hb4.mono HB3.out.size))
  clear c2 hb4 q0 q1 q2 q3 q4 qf
  by_cases h2:400<z2
  ·have h2':(400:Int)<(z2:Int):=by omega
   go_wp2_with fail
   refine (HA.out w4 (HB2.out.trans (HB3.out.mono HB2.out.size))).mono ?_
   rintro e' w5 ⟨rfl,hb5⟩
   have HB5:=hid (HB2.out.trans ((HB3.out.trans (hb5.mono HB3.out.size)).mono HB2.out.size))
   clear hb5
   go_wp2_with fail
   go_ret
   exact ⟨rfl,HB5.out⟩
  ·have h2':¬ (400:Int)<(z2:Int):=by omega
   obtain ⟨r1,r2⟩:=HBX.out w4 HB3.out
   obtain ⟨⟨p0,p1,p2,p3,p4⟩,pf⟩:=J.cells_five r1
   have c3:=HM.out w4 (HB2.out.trans (HB3.out.mono HB2.out.size))
   clear r1 r2
   go_wp2_with fail
   refine c3.mono ?_
   rintro e' w5 ⟨lv',rfl,hk5,hb5⟩
   replace HB3:=hid (HB3.out.trans (hb5.mono HB3.out.size))
   obtain ⟨k',t',f',e1',ks'⟩:=P'
   obtain ⟨a',c',rfl⟩:=J.kids_form hk5
   rw [show arg (.mk k' t' f' e1' ks') (.slice a' ks'.length c')=.agg #[.string (bstr k'),.string (bstr t'),.int .i64 f',.int .i64 e1',.slice a' ks'.length c'] from rfl]
   obtain ⟨n',hn'⟩:∃ n,ks'.length=n:=⟨_,rfl⟩
   obtain ⟨kb',hkb'⟩:∃ x,bstr k'=x:=⟨_,rfl⟩
   obtain ⟨tb',htb'⟩:∃ x,bstr t'=x:=⟨_,rfl⟩
   have HCS:=hid (show Value.agg #[.string kb',.string tb',.int .i64 f',.int .i64 e1',.slice a' n' c']=arg (.mk k' t' f' e1' ks') (.slice a' ks'.length c') by rw [← hkb',← htb',← hn'];rfl)
   rw [hn',hkb',htb']
   have HK5:=hid hk5
   clear c3 hb5 hk5 hn' hkb' htb' p0 p1 p2 p3 p4 pf
   go_upto_region 4 with fail
   obtain ⟨w6,hw6,hq6,hb6,hz6⟩:=new_block w5 (.cells #[.string kb',.string tb',.int .i64 f',.int .i64 e1',.slice a' n' c'] 25)
   rw [hw6]
   have HK6:=hid (fun X (hX:Below w6.heap.size w6 X)=>kids_below HK5.out (hb6.trans (hX.mono hb6.size)))
   have HQ6:=hid (fun X (hX:Below w6.heap.size w6 X)=>(hX.block _ hz6).trans hq6)
   have hb26:=HB3.out.trans (hb6.mono HB3.out.size)
   have HX6:=hid (fun X (hX:Below w6.heap.size w6 X)=>hb26.trans (hX.mono hb26.size))
   have HW6:=hid (fun X (hX:Below w6.heap.size w6 X)=>HB2.out.trans ((hb26.trans (hX.mono hb26.size)).mono HB2.out.size))
   clear hw6 hq6 hb6 hz6 hb26 HB3 HK5
   obtain ⟨b3,hb3⟩:∃ x,w5.heap.size=x:=⟨_,rfl⟩
   rw [hb3] at HQ6 ⊢
   clear hb3
   have HB6:=hid (Below.refl w6.heap.size w6)
   obtain ⟨r1,r2⟩:=HBX.out w6 (HX6.out w6 HB6.out)
   obtain ⟨⟨p0,p1,p2,p3,p4⟩,pf⟩:=J.cells_five r1
   obtain ⟨⟨q0,q1,q2,q3,q4⟩,qf⟩:=J.cells_five r2
   have c:=HCA.out w6 (HW6.out w6 HB6.out)
   clear r1 r2
   go_wp2_with fail
   refine c.mono ?_
   rintro e' w7 ⟨rfl,hb⟩
   have HB7:=hid hb
   clear c hb p0 p1 p2 p3 p4 pf q0 q1 q2 q3 q4 qf HB6
   go_upto_region 5 with fail
   have HB:=hid (HB7.out.trans ((Below.refl w7.heap.size w7).drew.mono HB7.out.size))
   refine wp_region_held_drew (S:=fun X:World=>(X.heap[w.heap.size]?=some (.cells #[.string kb,.string tb,.int .i64 f,.int .i64 e,.slice a n c] 25 (0,0))∧X.heap[w.heap.size+1]?=some (.cells #[.string kb2,.string tb2,.int .i64 f2,.int .i64 e2,.slice a2 n2 c2] 25 (0,0)))∧X.heap[b3]?=some (.cells #[.string kb',.string tb',.int .i64 f',.int .i64 e1',.slice a' n' c'] 25 (0,0))) (by kernel_rfl) ⟨HBX.out _ (HX6.out _ HB.out),HQ6.out _ HB.out⟩ (fun hHeld=>?_)
   have hxx:(x1.toList==x1.toList)=true:=by simp
   cases o with
   | false =>
    refine wpAnyH_ready (rs:=[0]) (by kernel_rfl) (by simp) ?_
    refine (AllReadyH.cons (o:=OP.p107) rfl (fun K hK=>?_) AllReadyH.nil)
    refine wanted_step (by kernel_rfl) ?_
    go_simp
    go_at_call 11
    refine (HA.out _ (HW6.out _ HB.out)).mono ?_
    rintro e9 w8 ⟨rfl,hb⟩
    dsimp only
    replace HB:=hid (HB.out.trans (hb.mono HB.out.size))
    clear hb
    refine hK.out _ _ (⟨HBX.out _ (HX6.out _ HB.out),HQ6.out _ HB.out⟩) (fun hHeld=>?_)
    (try simp only [Act.put,List.setIfInBounds_toArray,List.set_cons_zero,List.set_cons_succ])
    clear hK K
    refine wpAnyH_take (i:=1) (oi:=OP.p108) (v:=.bool true) rfl (by kernel_rfl) (by kernel_rfl) (by kernel_rfl) (fun _ _ _ h=>h) (Or.inl ⟨by rfl,fun X hX=>rfl⟩) hHeld ?_
    (try simp only [Act.put,List.setIfInBounds_toArray,List.set_cons_zero,List.set_cons_succ])
    refine wpAnyH_take (i:=2) (oi:=OP.p109) (v:=(.agg #[.string kb,.string tb,.int .i64 f,.int .i64 e,.slice a n c])) rfl (by kernel_rfl) (by kernel_rfl) (by kernel_rfl) (fun _ _ _ h=>h) (yields_load 25 (.tmp 3) rfl (by rfl) (fun X hX=>load_five hX.1.1)) hHeld ?_
    (try simp only [Act.put,List.setIfInBounds_toArray,List.set_cons_zero,List.set_cons_succ])
    refine wpAnyH_take (i:=3) (oi:=OP.p110) (v:=(.agg #[.string kb',.string tb',.int .i64 f',.int .i64 e1',.slice a' n' c'])) rfl (by kernel_rfl) (by kernel_rfl) (by kernel_rfl) (fun _ _ _ h=>h) (yields_load 25 (.tmp 7) rfl (by rfl) (fun X hX=>load_five hX.2)) hHeld ?_
    (try simp only [Act.put,List.setIfInBounds_toArray,List.set_cons_zero,List.set_cons_succ])
    refine wpAnyH_ready (rs:=[4]) (by kernel_rfl) (by simp) ?_
    refine (AllReadyH.cons (o:=OP.p111) rfl (fun K hK=>?_) AllReadyH.nil)
    refine wanted_step (by kernel_rfl) ?_
    go_simp
    go_at_call 13
    refine (HCM.out _ _ _ _ (HW6.out _ HB.out) HCS.out (HK6.out _ HB.out)).mono ?_
    rintro e9 w9 ⟨rfl,hb⟩
    dsimp only
    replace HB:=hid (HB.out.trans (hb.mono HB.out.size))
    clear hb
    refine hK.out _ _ (⟨HBX.out _ (HX6.out _ HB.out),HQ6.out _ HB.out⟩) (fun hHeld=>?_)
    (try simp only [Act.put,List.setIfInBounds_toArray,List.set_cons_zero,List.set_cons_succ])
    clear hK K
    refine wpAnyH_take (i:=5) (oi:=OP.p112) (v:=.bool true) rfl (by kernel_rfl) (by kernel_rfl) (by kernel_rfl) (fun _ _ _ h=>h) (Or.inl ⟨by rfl,fun X hX=>rfl⟩) hHeld ?_
    (try simp only [Act.put,List.setIfInBounds_toArray,List.set_cons_zero,List.set_cons_succ])
    refine wpAnyH_take (i:=6) (oi:=OP.p113) (v:=.bool true) rfl (by kernel_rfl) (by kernel_rfl) (by kernel_rfl) (fun _ _ _ h=>h) (Or.inl ⟨by rfl,fun X hX=>rfl⟩) hHeld ?_
    (try simp only [Act.put,List.setIfInBounds_toArray,List.set_cons_zero,List.set_cons_succ])
    refine wpAnyH_take (i:=7) (oi:=OP.p114) (v:=(.agg #[.string kb,.string tb,.int .i64 f,.int .i64 e,.slice a n c])) rfl (by kernel_rfl) (by kernel_rfl) (by kernel_rfl) (fun _ _ _ h=>h) (yields_load 25 (.tmp 3) rfl (by rfl) (fun X hX=>load_five hX.1.1)) hHeld ?_
    (try simp only [Act.put,List.setIfInBounds_toArray,List.set_cons_zero,List.set_cons_succ])
    refine wpAnyH_take (i:=9) (oi:=OP.p115) (v:=(.agg #[.string kb',.string tb',.int .i64 f',.int .i64 e1',.slice a' n' c'])) rfl (by kernel_rfl) (by kernel_rfl) (by kernel_rfl) (fun _ _ _ h=>h) (yields_load 25 (.tmp 7) rfl (by rfl) (fun X hX=>load_five hX.2)) hHeld ?_
    (try simp only [Act.put,List.setIfInBounds_toArray,List.set_cons_zero,List.set_cons_succ])
    refine wpAnyH_ready (rs:=[8]) (by kernel_rfl) (by simp) ?_
    refine (AllReadyH.cons (o:=OP.p116) rfl (fun K hK=>?_) AllReadyH.nil)
    refine wanted_step (by kernel_rfl) ?_
    go_simp
    go_at_call 12
    refine (HS1.out _ (HW6.out _ HB.out)).mono ?_
    rintro e9 w10 ⟨rfl,hb⟩
    dsimp only
    replace HB:=hid (HB.out.trans (hb.mono HB.out.size))
    clear hb
    refine hK.out _ _ (⟨HBX.out _ (HX6.out _ HB.out),HQ6.out _ HB.out⟩) (fun hHeld=>?_)
    (try simp only [Act.put,List.setIfInBounds_toArray,List.set_cons_zero,List.set_cons_succ])
    clear hK K
    refine wpAnyH_ready (rs:=[10]) (by kernel_rfl) (by simp) ?_
    refine (AllReadyH.cons (o:=OP.p117) rfl (fun K hK=>?_) AllReadyH.nil)
    refine wanted_step (by kernel_rfl) ?_
    go_simp
    go_at_call 12
    refine (HSM.out _ _ _ _ HCS.out (HK6.out _ HB.out)).mono ?_
    rintro e9 w11 ⟨rfl,hb⟩
    dsimp only
    replace HB:=hid (HB.out.trans (hb.mono HB.out.size))
    clear hb
    refine hK.out _ _ (⟨HBX.out _ (HX6.out _ HB.out),HQ6.out _ HB.out⟩) (fun hHeld=>?_)
    (try simp only [Act.put,List.setIfInBounds_toArray,List.set_cons_zero,List.set_cons_succ])
    clear hK K
    refine wpAnyH_take (i:=11) (oi:=OP.p118) (v:=.bool true) rfl (by kernel_rfl) (by kernel_rfl) (by kernel_rfl) (fun _ _ _ h=>h) (yields_eql (Operand.tmp 32) (Operand.tmp 34) rfl (by rfl) rfl rfl hxx) hHeld ?_
    (try simp only [Act.put,List.setIfInBounds_toArray,List.set_cons_zero,List.set_cons_succ])
    refine wpAnyH_take (i:=12) (oi:=OP.p119) (v:=.bool true) rfl (by kernel_rfl) (by kernel_rfl) (by kernel_rfl) (fun _ _ _ h=>h) (Or.inl ⟨by rfl,fun X hX=>rfl⟩) hHeld ?_
    (try simp only [Act.put,List.setIfInBounds_toArray,List.set_cons_zero,List.set_cons_succ])
    refine wpAnyH_take (i:=13) (oi:=OP.p120) (v:=.bool true) rfl (by kernel_rfl) (by kernel_rfl) (by kernel_rfl) (fun _ _ _ h=>h) (Or.inl ⟨by rfl,fun X hX=>rfl⟩) hHeld ?_
    (try simp only [Act.put,List.setIfInBounds_toArray,List.set_cons_zero,List.set_cons_succ])
    refine wpAnyH_take (i:=14) (oi:=OP.p121) (v:=.bool false) rfl (by kernel_rfl) (by kernel_rfl) (by kernel_rfl) (fun _ _ _ h=>h) (Or.inl ⟨by rfl,fun X hX=>rfl⟩) hHeld ?_
    (try simp only [Act.put,List.setIfInBounds_toArray,List.set_cons_zero,List.set_cons_succ])
    refine wpAnyH_take (i:=15) (oi:=OP.p122) (v:=(.agg #[.string kb2,.string tb2,.int .i64 f2,.int .i64 e2,.slice a2 n2 c2])) rfl (by kernel_rfl) (by kernel_rfl) (by kernel_rfl) (fun _ _ _ h=>h) (yields_load 25 (.tmp 4) rfl (by rfl) (fun X hX=>load_five hX.1.2)) hHeld ?_
    (try simp only [Act.put,List.setIfInBounds_toArray,List.set_cons_zero,List.set_cons_succ])
    refine wpAnyH_take (i:=16) (oi:=OP.p123) (v:=(.agg #[.string kb,.string tb,.int .i64 f,.int .i64 e,.slice a n c])) rfl (by kernel_rfl) (by kernel_rfl) (by kernel_rfl) (fun _ _ _ h=>h) (yields_load 25 (.tmp 3) rfl (by rfl) (fun X hX=>load_five hX.1.1)) hHeld ?_
    (try simp only [Act.put,List.setIfInBounds_toArray,List.set_cons_zero,List.set_cons_succ])
    refine wpAnyH_ready (rs:=[17]) (by kernel_rfl) (by simp) ?_
    refine (AllReadyH.cons (o:=OP.p124) rfl (fun K hK=>?_) AllReadyH.nil)
    refine wanted_step (by kernel_rfl) ?_
    go_simp
    go_at_call 13
    refine (HCB.out _ (HW6.out _ HB.out)).mono ?_
    rintro e9 w12 ⟨rfl,hb⟩
    dsimp only
    replace HB:=hid (HB.out.trans (hb.mono HB.out.size))
    clear hb
    refine hK.out _ _ (⟨HBX.out _ (HX6.out _ HB.out),HQ6.out _ HB.out⟩) (fun hHeld=>?_)
    (try simp only [Act.put,List.setIfInBounds_toArray,List.set_cons_zero,List.set_cons_succ])
    clear hK K
    refine wpAnyH_take (i:=18) (oi:=OP.p125) (v:=.bool true) rfl (by kernel_rfl) (by kernel_rfl) (by kernel_rfl) (fun _ _ _ h=>h) (yields_eqb (Operand.tmp 38) (Operand.tmp 41) rfl (by rfl) (p:=false) rfl rfl) hHeld ?_
    (try simp only [Act.put,List.setIfInBounds_toArray,List.set_cons_zero,List.set_cons_succ])
    refine wpAnyH_take (i:=19) (oi:=OP.p126) (v:=.bool true) rfl (by kernel_rfl) (by kernel_rfl) (by kernel_rfl) (fun _ _ _ h=>h) (Or.inl ⟨by rfl,fun X hX=>rfl⟩) hHeld ?_
    (try simp only [Act.put,List.setIfInBounds_toArray,List.set_cons_zero,List.set_cons_succ])
    refine wpAnyH_take (i:=20) (oi:=OP.p127) (v:=.bool true) rfl (by kernel_rfl) (by kernel_rfl) (by kernel_rfl) (fun _ _ _ h=>h) (Or.inl ⟨by rfl,fun X hX=>rfl⟩) hHeld ?_
    (try simp only [Act.put,List.setIfInBounds_toArray,List.set_cons_zero,List.set_cons_succ])
    refine wpAnyH_take (i:=21) (oi:=OP.p128) (v:=.bool false) rfl (by kernel_rfl) (by kernel_rfl) (by kernel_rfl) (fun _ _ _ h=>h) (Or.inl ⟨by rfl,fun X hX=>rfl⟩) hHeld ?_
    (try simp only [Act.put,List.setIfInBounds_toArray,List.set_cons_zero,List.set_cons_succ])
    refine wpAnyH_take (i:=22) (oi:=OP.p129) (v:=.bool true) rfl (by kernel_rfl) (by kernel_rfl) (by kernel_rfl) (fun _ _ _ h=>h) (Or.inl ⟨by rfl,fun X hX=>rfl⟩) hHeld ?_
    (try simp only [Act.put,List.setIfInBounds_toArray,List.set_cons_zero,List.set_cons_succ])
    refine wpAnyH_take (i:=23) (oi:=OP.p130) (v:=.bool true) rfl (by kernel_rfl) (by kernel_rfl) (by kernel_rfl) (fun _ _ _ h=>h) (Or.inl ⟨by rfl,fun X hX=>rfl⟩) hHeld ?_
    (try simp only [Act.put,List.setIfInBounds_toArray,List.set_cons_zero,List.set_cons_succ])
    refine wpAnyH_take (i:=24) (oi:=OP.p131) (v:=undef) rfl (by kernel_rfl) (by kernel_rfl) (by kernel_rfl) (fun _ _ _ h=>h) (Or.inr ⟨by rfl,rfl⟩) hHeld ?_
    (try simp only [Act.put,List.setIfInBounds_toArray,List.set_cons_zero,List.set_cons_succ])
    refine wpAnyH_take (i:=25) (oi:=OP.p132) (v:=undef) rfl (by kernel_rfl) (by kernel_rfl) (by kernel_rfl) (fun _ _ _ h=>h) (Or.inr ⟨by rfl,rfl⟩) hHeld ?_
    (try simp only [Act.put,List.setIfInBounds_toArray,List.set_cons_zero,List.set_cons_succ])
    refine wpAnyH_take (i:=26) (oi:=OP.p133) (v:=undef) rfl (by kernel_rfl) (by kernel_rfl) (by kernel_rfl) (fun _ _ _ h=>h) (Or.inr ⟨by rfl,rfl⟩) hHeld ?_
    (try simp only [Act.put,List.setIfInBounds_toArray,List.set_cons_zero,List.set_cons_succ])
    refine wpAnyH_take (i:=27) (oi:=OP.p134) (v:=undef) rfl (by kernel_rfl) (by kernel_rfl) (by kernel_rfl) (fun _ _ _ h=>h) (Or.inr ⟨by rfl,rfl⟩) hHeld ?_
    (try simp only [Act.put,List.setIfInBounds_toArray,List.set_cons_zero,List.set_cons_succ])
    refine wpAnyH_take (i:=28) (oi:=OP.p135) (v:=undef) rfl (by kernel_rfl) (by kernel_rfl) (by kernel_rfl) (fun _ _ _ h=>h) (Or.inr ⟨by rfl,rfl⟩) hHeld ?_
    (try simp only [Act.put,List.setIfInBounds_toArray,List.set_cons_zero,List.set_cons_succ])
    refine wpAnyH_take (i:=29) (oi:=OP.p136) (v:=undef) rfl (by kernel_rfl) (by kernel_rfl) (by kernel_rfl) (fun _ _ _ h=>h) (Or.inr ⟨by rfl,rfl⟩) hHeld ?_
    (try simp only [Act.put,List.setIfInBounds_toArray,List.set_cons_zero,List.set_cons_succ])
    refine wpAnyH_take (i:=30) (oi:=OP.p137) (v:=undef) rfl (by kernel_rfl) (by kernel_rfl) (by kernel_rfl) (fun _ _ _ h=>h) (Or.inr ⟨by rfl,rfl⟩) hHeld ?_
    (try simp only [Act.put,List.setIfInBounds_toArray,List.set_cons_zero,List.set_cons_succ])
    refine wpAnyH_take (i:=31) (oi:=OP.p138) (v:=undef) rfl (by kernel_rfl) (by kernel_rfl) (by kernel_rfl) (fun _ _ _ h=>h) (Or.inr ⟨by rfl,rfl⟩) hHeld ?_
    (try simp only [Act.put,List.setIfInBounds_toArray,List.set_cons_zero,List.set_cons_succ])
    refine wpAnyH_take (i:=32) (oi:=OP.p139) (v:=undef) rfl (by kernel_rfl) (by kernel_rfl) (by kernel_rfl) (fun _ _ _ h=>h) (Or.inr ⟨by rfl,rfl⟩) hHeld ?_
    (try simp only [Act.put,List.setIfInBounds_toArray,List.set_cons_zero,List.set_cons_succ])
    refine wpAnyH_take (i:=33) (oi:=OP.p140) (v:=undef) rfl (by kernel_rfl) (by kernel_rfl) (by kernel_rfl) (fun _ _ _ h=>h) (Or.inr ⟨by rfl,rfl⟩) hHeld ?_
    (try simp only [Act.put,List.setIfInBounds_toArray,List.set_cons_zero,List.set_cons_succ])
    refine wpAnyH_take (i:=34) (oi:=OP.p141) (v:=undef) rfl (by kernel_rfl) (by kernel_rfl) (by kernel_rfl) (fun _ _ _ h=>h) (Or.inr ⟨by rfl,rfl⟩) hHeld ?_
    (try simp only [Act.put,List.setIfInBounds_toArray,List.set_cons_zero,List.set_cons_succ])
    refine wpAnyH_take (i:=35) (oi:=OP.p142) (v:=undef) rfl (by kernel_rfl) (by kernel_rfl) (by kernel_rfl) (fun _ _ _ h=>h) (Or.inr ⟨by rfl,rfl⟩) hHeld ?_
    (try simp only [Act.put,List.setIfInBounds_toArray,List.set_cons_zero,List.set_cons_succ])
    refine wpAnyH_take (i:=36) (oi:=OP.p143) (v:=.bool true) rfl (by kernel_rfl) (by kernel_rfl) (by kernel_rfl) (fun _ _ _ h=>h) (Or.inl ⟨by rfl,fun X hX=>rfl⟩) hHeld ?_
    (try simp only [Act.put,List.setIfInBounds_toArray,List.set_cons_zero,List.set_cons_succ])
    refine wpAnyH_take (i:=37) (oi:=OP.p144) (v:=.bool true) rfl (by kernel_rfl) (by kernel_rfl) (by kernel_rfl) (fun _ _ _ h=>h) (Or.inl ⟨by rfl,fun X hX=>rfl⟩) hHeld ?_
    (try simp only [Act.put,List.setIfInBounds_toArray,List.set_cons_zero,List.set_cons_succ])
    refine wpAnyH_take (i:=38) (oi:=OP.p145) (v:=.bool true) rfl (by kernel_rfl) (by kernel_rfl) (by kernel_rfl) (fun _ _ _ h=>h) (Or.inl ⟨by rfl,fun X hX=>rfl⟩) hHeld ?_
    (try simp only [Act.put,List.setIfInBounds_toArray,List.set_cons_zero,List.set_cons_succ])
    refine wpAnyH_done (by kernel_rfl) ?_ _
    clear hHeld
    (try go_wp2_with fail)
    go_ret
    exact ⟨rfl,HW6.out _ HB.out⟩
   | true =>
    obtain ⟨rfl,rfl⟩:=HSA.out rfl
    have hyy:(y1.toList==y1.toList)=true:=by simp
    refine wpAnyH_ready (rs:=[0]) (by kernel_rfl) (by simp) ?_
    refine (AllReadyH.cons (o:=OP.p107) rfl (fun K hK=>?_) AllReadyH.nil)
    refine wanted_step (by kernel_rfl) ?_
    go_simp
    go_at_call 11
    refine (HA.out _ (HW6.out _ HB.out)).mono ?_
    rintro e9 w8 ⟨rfl,hb⟩
    dsimp only
    replace HB:=hid (HB.out.trans (hb.mono HB.out.size))
    clear hb
    refine hK.out _ _ (⟨HBX.out _ (HX6.out _ HB.out),HQ6.out _ HB.out⟩) (fun hHeld=>?_)
    (try simp only [Act.put,List.setIfInBounds_toArray,List.set_cons_zero,List.set_cons_succ])
    clear hK K
    refine wpAnyH_take (i:=1) (oi:=OP.p108) (v:=.bool true) rfl (by kernel_rfl) (by kernel_rfl) (by kernel_rfl) (fun _ _ _ h=>h) (Or.inl ⟨by rfl,fun X hX=>rfl⟩) hHeld ?_
    (try simp only [Act.put,List.setIfInBounds_toArray,List.set_cons_zero,List.set_cons_succ])
    refine wpAnyH_take (i:=2) (oi:=OP.p109) (v:=(.agg #[.string kb,.string tb,.int .i64 f,.int .i64 e,.slice a n c])) rfl (by kernel_rfl) (by kernel_rfl) (by kernel_rfl) (fun _ _ _ h=>h) (yields_load 25 (.tmp 3) rfl (by rfl) (fun X hX=>load_five hX.1.1)) hHeld ?_
    (try simp only [Act.put,List.setIfInBounds_toArray,List.set_cons_zero,List.set_cons_succ])
    refine wpAnyH_take (i:=3) (oi:=OP.p110) (v:=(.agg #[.string kb',.string tb',.int .i64 f',.int .i64 e1',.slice a' n' c'])) rfl (by kernel_rfl) (by kernel_rfl) (by kernel_rfl) (fun _ _ _ h=>h) (yields_load 25 (.tmp 7) rfl (by rfl) (fun X hX=>load_five hX.2)) hHeld ?_
    (try simp only [Act.put,List.setIfInBounds_toArray,List.set_cons_zero,List.set_cons_succ])
    refine wpAnyH_ready (rs:=[4]) (by kernel_rfl) (by simp) ?_
    refine (AllReadyH.cons (o:=OP.p111) rfl (fun K hK=>?_) AllReadyH.nil)
    refine wanted_step (by kernel_rfl) ?_
    go_simp
    go_at_call 13
    refine (HCM.out _ _ _ _ (HW6.out _ HB.out) HCS.out (HK6.out _ HB.out)).mono ?_
    rintro e9 w9 ⟨rfl,hb⟩
    dsimp only
    replace HB:=hid (HB.out.trans (hb.mono HB.out.size))
    clear hb
    refine hK.out _ _ (⟨HBX.out _ (HX6.out _ HB.out),HQ6.out _ HB.out⟩) (fun hHeld=>?_)
    (try simp only [Act.put,List.setIfInBounds_toArray,List.set_cons_zero,List.set_cons_succ])
    clear hK K
    refine wpAnyH_take (i:=5) (oi:=OP.p112) (v:=.bool true) rfl (by kernel_rfl) (by kernel_rfl) (by kernel_rfl) (fun _ _ _ h=>h) (Or.inl ⟨by rfl,fun X hX=>rfl⟩) hHeld ?_
    (try simp only [Act.put,List.setIfInBounds_toArray,List.set_cons_zero,List.set_cons_succ])
    refine wpAnyH_take (i:=6) (oi:=OP.p113) (v:=.bool true) rfl (by kernel_rfl) (by kernel_rfl) (by kernel_rfl) (fun _ _ _ h=>h) (Or.inl ⟨by rfl,fun X hX=>rfl⟩) hHeld ?_
    (try simp only [Act.put,List.setIfInBounds_toArray,List.set_cons_zero,List.set_cons_succ])
    refine wpAnyH_take (i:=7) (oi:=OP.p114) (v:=(.agg #[.string kb,.string tb,.int .i64 f,.int .i64 e,.slice a n c])) rfl (by kernel_rfl) (by kernel_rfl) (by kernel_rfl) (fun _ _ _ h=>h) (yields_load 25 (.tmp 3) rfl (by rfl) (fun X hX=>load_five hX.1.1)) hHeld ?_
    (try simp only [Act.put,List.setIfInBounds_toArray,List.set_cons_zero,List.set_cons_succ])
    refine wpAnyH_take (i:=9) (oi:=OP.p115) (v:=(.agg #[.string kb',.string tb',.int .i64 f',.int .i64 e1',.slice a' n' c'])) rfl (by kernel_rfl) (by kernel_rfl) (by kernel_rfl) (fun _ _ _ h=>h) (yields_load 25 (.tmp 7) rfl (by rfl) (fun X hX=>load_five hX.2)) hHeld ?_
    (try simp only [Act.put,List.setIfInBounds_toArray,List.set_cons_zero,List.set_cons_succ])
    refine wpAnyH_ready (rs:=[8]) (by kernel_rfl) (by simp) ?_
    refine (AllReadyH.cons (o:=OP.p116) rfl (fun K hK=>?_) AllReadyH.nil)
    refine wanted_step (by kernel_rfl) ?_
    go_simp
    go_at_call 12
    refine (HS1.out _ (HW6.out _ HB.out)).mono ?_
    rintro e9 w10 ⟨rfl,hb⟩
    dsimp only
    replace HB:=hid (HB.out.trans (hb.mono HB.out.size))
    clear hb
    refine hK.out _ _ (⟨HBX.out _ (HX6.out _ HB.out),HQ6.out _ HB.out⟩) (fun hHeld=>?_)
    (try simp only [Act.put,List.setIfInBounds_toArray,List.set_cons_zero,List.set_cons_succ])
    clear hK K
    refine wpAnyH_ready (rs:=[10]) (by kernel_rfl) (by simp) ?_
    refine (AllReadyH.cons (o:=OP.p117) rfl (fun K hK=>?_) AllReadyH.nil)
    refine wanted_step (by kernel_rfl) ?_
    go_simp
    go_at_call 12
    refine (HSM.out _ _ _ _ HCS.out (HK6.out _ HB.out)).mono ?_
    rintro e9 w11 ⟨rfl,hb⟩
    dsimp only
    replace HB:=hid (HB.out.trans (hb.mono HB.out.size))
    clear hb
    refine hK.out _ _ (⟨HBX.out _ (HX6.out _ HB.out),HQ6.out _ HB.out⟩) (fun hHeld=>?_)
    (try simp only [Act.put,List.setIfInBounds_toArray,List.set_cons_zero,List.set_cons_succ])
    clear hK K
    refine wpAnyH_take (i:=11) (oi:=OP.p118) (v:=.bool true) rfl (by kernel_rfl) (by kernel_rfl) (by kernel_rfl) (fun _ _ _ h=>h) (yields_eql (Operand.tmp 32) (Operand.tmp 34) rfl (by rfl) rfl rfl hxx) hHeld ?_
    (try simp only [Act.put,List.setIfInBounds_toArray,List.set_cons_zero,List.set_cons_succ])
    refine wpAnyH_take (i:=12) (oi:=OP.p119) (v:=.bool true) rfl (by kernel_rfl) (by kernel_rfl) (by kernel_rfl) (fun _ _ _ h=>h) (Or.inl ⟨by rfl,fun X hX=>rfl⟩) hHeld ?_
    (try simp only [Act.put,List.setIfInBounds_toArray,List.set_cons_zero,List.set_cons_succ])
    refine wpAnyH_take (i:=13) (oi:=OP.p120) (v:=.bool true) rfl (by kernel_rfl) (by kernel_rfl) (by kernel_rfl) (fun _ _ _ h=>h) (Or.inl ⟨by rfl,fun X hX=>rfl⟩) hHeld ?_
    (try simp only [Act.put,List.setIfInBounds_toArray,List.set_cons_zero,List.set_cons_succ])
    refine wpAnyH_take (i:=14) (oi:=OP.p121) (v:=.bool true) rfl (by kernel_rfl) (by kernel_rfl) (by kernel_rfl) (fun _ _ _ h=>h) (Or.inl ⟨by rfl,fun X hX=>rfl⟩) hHeld ?_
    (try simp only [Act.put,List.setIfInBounds_toArray,List.set_cons_zero,List.set_cons_succ])
    refine wpAnyH_take (i:=15) (oi:=OP.p122) (v:=(.agg #[.string kb2,.string tb2,.int .i64 f2,.int .i64 e2,.slice a2 n2 c2])) rfl (by kernel_rfl) (by kernel_rfl) (by kernel_rfl) (fun _ _ _ h=>h) (yields_load 25 (.tmp 4) rfl (by rfl) (fun X hX=>load_five hX.1.2)) hHeld ?_
    (try simp only [Act.put,List.setIfInBounds_toArray,List.set_cons_zero,List.set_cons_succ])
    refine wpAnyH_take (i:=16) (oi:=OP.p123) (v:=(.agg #[.string kb,.string tb,.int .i64 f,.int .i64 e,.slice a n c])) rfl (by kernel_rfl) (by kernel_rfl) (by kernel_rfl) (fun _ _ _ h=>h) (yields_load 25 (.tmp 3) rfl (by rfl) (fun X hX=>load_five hX.1.1)) hHeld ?_
    (try simp only [Act.put,List.setIfInBounds_toArray,List.set_cons_zero,List.set_cons_succ])
    refine wpAnyH_ready (rs:=[17]) (by kernel_rfl) (by simp) ?_
    refine (AllReadyH.cons (o:=OP.p124) rfl (fun K hK=>?_) AllReadyH.nil)
    refine wanted_step (by kernel_rfl) ?_
    go_simp
    go_at_call 13
    refine (HCB.out _ (HW6.out _ HB.out)).mono ?_
    rintro e9 w12 ⟨rfl,hb⟩
    dsimp only
    replace HB:=hid (HB.out.trans (hb.mono HB.out.size))
    clear hb
    refine hK.out _ _ (⟨HBX.out _ (HX6.out _ HB.out),HQ6.out _ HB.out⟩) (fun hHeld=>?_)
    (try simp only [Act.put,List.setIfInBounds_toArray,List.set_cons_zero,List.set_cons_succ])
    clear hK K
    refine wpAnyH_take (i:=18) (oi:=OP.p125) (v:=.bool true) rfl (by kernel_rfl) (by kernel_rfl) (by kernel_rfl) (fun _ _ _ h=>h) (yields_eqb (Operand.tmp 38) (Operand.tmp 41) rfl (by rfl) (p:=true) rfl rfl) hHeld ?_
    (try simp only [Act.put,List.setIfInBounds_toArray,List.set_cons_zero,List.set_cons_succ])
    refine wpAnyH_take (i:=19) (oi:=OP.p126) (v:=.bool true) rfl (by kernel_rfl) (by kernel_rfl) (by kernel_rfl) (fun _ _ _ h=>h) (Or.inl ⟨by rfl,fun X hX=>rfl⟩) hHeld ?_
    (try simp only [Act.put,List.setIfInBounds_toArray,List.set_cons_zero,List.set_cons_succ])
    refine wpAnyH_take (i:=20) (oi:=OP.p127) (v:=.bool true) rfl (by kernel_rfl) (by kernel_rfl) (by kernel_rfl) (fun _ _ _ h=>h) (Or.inl ⟨by rfl,fun X hX=>rfl⟩) hHeld ?_
    (try simp only [Act.put,List.setIfInBounds_toArray,List.set_cons_zero,List.set_cons_succ])
    refine wpAnyH_take (i:=21) (oi:=OP.p128) (v:=.bool true) rfl (by kernel_rfl) (by kernel_rfl) (by kernel_rfl) (fun _ _ _ h=>h) (Or.inl ⟨by rfl,fun X hX=>rfl⟩) hHeld ?_
    (try simp only [Act.put,List.setIfInBounds_toArray,List.set_cons_zero,List.set_cons_succ])
    refine wpAnyH_take (i:=22) (oi:=OP.p129) (v:=.bool false) rfl (by kernel_rfl) (by kernel_rfl) (by kernel_rfl) (fun _ _ _ h=>h) (Or.inl ⟨by rfl,fun X hX=>rfl⟩) hHeld ?_
    (try simp only [Act.put,List.setIfInBounds_toArray,List.set_cons_zero,List.set_cons_succ])
    refine wpAnyH_take (i:=23) (oi:=OP.p130) (v:=.bool false) rfl (by kernel_rfl) (by kernel_rfl) (by kernel_rfl) (fun _ _ _ h=>h) (Or.inl ⟨by rfl,fun X hX=>rfl⟩) hHeld ?_
    (try simp only [Act.put,List.setIfInBounds_toArray,List.set_cons_zero,List.set_cons_succ])
    refine wpAnyH_take (i:=24) (oi:=OP.p131) (v:=(.agg #[.string kb,.string tb,.int .i64 f,.int .i64 e,.slice a n c])) rfl (by kernel_rfl) (by kernel_rfl) (by kernel_rfl) (fun _ _ _ h=>h) (yields_load 25 (.tmp 3) rfl (by rfl) (fun X hX=>load_five hX.1.1)) hHeld ?_
    (try simp only [Act.put,List.setIfInBounds_toArray,List.set_cons_zero,List.set_cons_succ])
    refine wpAnyH_take (i:=26) (oi:=OP.p133) (v:=(.agg #[.string kb2,.string tb2,.int .i64 f2,.int .i64 e2,.slice a2 n2 c2])) rfl (by kernel_rfl) (by kernel_rfl) (by kernel_rfl) (fun _ _ _ h=>h) (yields_load 25 (.tmp 4) rfl (by rfl) (fun X hX=>load_five hX.1.2)) hHeld ?_
    (try simp only [Act.put,List.setIfInBounds_toArray,List.set_cons_zero,List.set_cons_succ])
    refine wpAnyH_ready (rs:=[25]) (by kernel_rfl) (by simp) ?_
    refine (AllReadyH.cons (o:=OP.p132) rfl (fun K hK=>?_) AllReadyH.nil)
    refine wanted_step (by kernel_rfl) ?_
    go_simp
    go_at_call 14
    refine (HH1.out _ (HW6.out _ HB.out)).mono ?_
    rintro e9 w13 ⟨rfl,hb⟩
    dsimp only
    replace HB:=hid (HB.out.trans (hb.mono HB.out.size))
    clear hb
    refine hK.out _ _ (⟨HBX.out _ (HX6.out _ HB.out),HQ6.out _ HB.out⟩) (fun hHeld=>?_)
    (try simp only [Act.put,List.setIfInBounds_toArray,List.set_cons_zero,List.set_cons_succ])
    clear hK K
    refine wpAnyH_ready (rs:=[27]) (by kernel_rfl) (by simp) ?_
    refine (AllReadyH.cons (o:=OP.p134) rfl (fun K hK=>?_) AllReadyH.nil)
    refine wanted_step (by kernel_rfl) ?_
    go_simp
    go_at_call 14
    refine (HH2.out _ (HW6.out _ HB.out)).mono ?_
    rintro e9 w14 ⟨rfl,hb⟩
    dsimp only
    replace HB:=hid (HB.out.trans (hb.mono HB.out.size))
    clear hb
    refine hK.out _ _ (⟨HBX.out _ (HX6.out _ HB.out),HQ6.out _ HB.out⟩) (fun hHeld=>?_)
    (try simp only [Act.put,List.setIfInBounds_toArray,List.set_cons_zero,List.set_cons_succ])
    clear hK K
    refine wpAnyH_take (i:=28) (oi:=OP.p135) (v:=.bool true) rfl (by kernel_rfl) (by kernel_rfl) (by kernel_rfl) (fun _ _ _ h=>h) (yields_eql (Operand.tmp 49) (Operand.tmp 51) rfl (by rfl) rfl rfl hyy) hHeld ?_
    (try simp only [Act.put,List.setIfInBounds_toArray,List.set_cons_zero,List.set_cons_succ])
    refine wpAnyH_take (i:=29) (oi:=OP.p136) (v:=.bool true) rfl (by kernel_rfl) (by kernel_rfl) (by kernel_rfl) (fun _ _ _ h=>h) (Or.inl ⟨by rfl,fun X hX=>rfl⟩) hHeld ?_
    (try simp only [Act.put,List.setIfInBounds_toArray,List.set_cons_zero,List.set_cons_succ])
    refine wpAnyH_take (i:=30) (oi:=OP.p137) (v:=(.agg #[.string kb,.string tb,.int .i64 f,.int .i64 e,.slice a n c])) rfl (by kernel_rfl) (by kernel_rfl) (by kernel_rfl) (fun _ _ _ h=>h) (yields_load 25 (.tmp 3) rfl (by rfl) (fun X hX=>load_five hX.1.1)) hHeld ?_
    (try simp only [Act.put,List.setIfInBounds_toArray,List.set_cons_zero,List.set_cons_succ])
    refine wpAnyH_take (i:=32) (oi:=OP.p139) (v:=(.agg #[.string kb2,.string tb2,.int .i64 f2,.int .i64 e2,.slice a2 n2 c2])) rfl (by kernel_rfl) (by kernel_rfl) (by kernel_rfl) (fun _ _ _ h=>h) (yields_load 25 (.tmp 4) rfl (by rfl) (fun X hX=>load_five hX.1.2)) hHeld ?_
    (try simp only [Act.put,List.setIfInBounds_toArray,List.set_cons_zero,List.set_cons_succ])
    refine wpAnyH_ready (rs:=[31]) (by kernel_rfl) (by simp) ?_
    refine (AllReadyH.cons (o:=OP.p138) rfl (fun K hK=>?_) AllReadyH.nil)
    refine wanted_step (by kernel_rfl) ?_
    go_simp
    go_at_call 12
    refine (HS1.out _ (HW6.out _ HB.out)).mono ?_
    rintro e9 w15 ⟨rfl,hb⟩
    dsimp only
    replace HB:=hid (HB.out.trans (hb.mono HB.out.size))
    clear hb
    refine hK.out _ _ (⟨HBX.out _ (HX6.out _ HB.out),HQ6.out _ HB.out⟩) (fun hHeld=>?_)
    (try simp only [Act.put,List.setIfInBounds_toArray,List.set_cons_zero,List.set_cons_succ])
    clear hK K
    refine wpAnyH_ready (rs:=[33]) (by kernel_rfl) (by simp) ?_
    refine (AllReadyH.cons (o:=OP.p140) rfl (fun K hK=>?_) AllReadyH.nil)
    refine wanted_step (by kernel_rfl) ?_
    go_simp
    go_at_call 12
    refine (HS2.out _ (HW6.out _ HB.out)).mono ?_
    rintro e9 w16 ⟨rfl,hb⟩
    dsimp only
    replace HB:=hid (HB.out.trans (hb.mono HB.out.size))
    clear hb
    refine hK.out _ _ (⟨HBX.out _ (HX6.out _ HB.out),HQ6.out _ HB.out⟩) (fun hHeld=>?_)
    (try simp only [Act.put,List.setIfInBounds_toArray,List.set_cons_zero,List.set_cons_succ])
    clear hK K
    refine wpAnyH_take (i:=34) (oi:=OP.p141) (v:=.bool true) rfl (by kernel_rfl) (by kernel_rfl) (by kernel_rfl) (fun _ _ _ h=>h) (yields_eql (Operand.tmp 55) (Operand.tmp 57) rfl (by rfl) rfl rfl hxx) hHeld ?_
    (try simp only [Act.put,List.setIfInBounds_toArray,List.set_cons_zero,List.set_cons_succ])
    refine wpAnyH_take (i:=35) (oi:=OP.p142) (v:=.bool true) rfl (by kernel_rfl) (by kernel_rfl) (by kernel_rfl) (fun _ _ _ h=>h) (Or.inl ⟨by rfl,fun X hX=>rfl⟩) hHeld ?_
    (try simp only [Act.put,List.setIfInBounds_toArray,List.set_cons_zero,List.set_cons_succ])
    refine wpAnyH_take (i:=36) (oi:=OP.p143) (v:=.bool true) rfl (by kernel_rfl) (by kernel_rfl) (by kernel_rfl) (fun _ _ _ h=>h) (Or.inl ⟨by rfl,fun X hX=>rfl⟩) hHeld ?_
    (try simp only [Act.put,List.setIfInBounds_toArray,List.set_cons_zero,List.set_cons_succ])
    refine wpAnyH_take (i:=37) (oi:=OP.p144) (v:=.bool true) rfl (by kernel_rfl) (by kernel_rfl) (by kernel_rfl) (fun _ _ _ h=>h) (Or.inl ⟨by rfl,fun X hX=>rfl⟩) hHeld ?_
    (try simp only [Act.put,List.setIfInBounds_toArray,List.set_cons_zero,List.set_cons_succ])
    refine wpAnyH_take (i:=38) (oi:=OP.p145) (v:=.bool true) rfl (by kernel_rfl) (by kernel_rfl) (by kernel_rfl) (fun _ _ _ h=>h) (Or.inl ⟨by rfl,fun X hX=>rfl⟩) hHeld ?_
    (try simp only [Act.put,List.setIfInBounds_toArray,List.set_cons_zero,List.set_cons_succ])
    refine wpAnyH_done (by kernel_rfl) ?_ _
    clear hHeld
    (try go_wp2_with fail)
    go_ret
    exact ⟨rfl,HW6.out _ HB.out⟩
end Go.Proofs.YtmclaaonlhnbmaaGreatDoor.H
