/- What the claim needs of the texts HBin2. -/
import Derived.Test.YtmclaaonlhnbmaaGreatDoorSOp
import Derived.Test.YtmclaaonlhnbmaaGreatDoorS15
import Derived.Test.YtmclaaonlhnbmaaGreatDoorS12
namespace Go.Proofs.YtmclaaonlhnbmaaGreatDoor.H
open Go.RowKit
open Go.Lib hiding intOf
open U S T K
open Go.Proofs.YtmclaaonlhnbmaaGreatDoor.J (arg wtP wtL kids_row kid_at KidAt new_block kids_below Pt.ind wtL_mem wtL_length)
theorem load_at {b j:Nat} {x:ByteArray} {W:World} (h:W.cell? ⟨b,j,none⟩=some (.string x)):(Instr.loadAt 9 (.pointer (some ⟨b,j,none⟩))).run Tryz.prog W=.ok (.string x) W:=by
 simp [go_sem,h]
set_option maxHeartbeats 16000000 in
set_option maxRecDepth 20000 in
theorem binary_any {d m ind:Nat} {bs:By} {k t:By} {f e:Int} {ks:List Pt} {lv:Value} {cs:Array Value} {W:World} (hA:AllC d m ks) (hcs:Value.agg cs=arg (.mk k t f e ks) lv) (h:Wr d m ind bs W) (hv:Lies d (.mk k t f e ks) lv W) (hw:wtP (.mk k t f e ks)≤1099511627776) (hd:ind+deep (.mk k t f e ks)≤1099511627776) (hl:bs.length+(byt (bodyP pcs ind t ks .binary)).length≤140737488355328) :
  Calls Tryz.prog 70 #[.pointer (some ⟨d,0,none⟩),.agg cs] W (Writes d m ind bs W (byt (bodyP pcs ind t ks .binary))):=by
 obtain ⟨kb,tb,n,a,c,rfl,hkb,htb,hn,rfl⟩:=cs_form hcs hv
 have HTB:=hid htb
 have HV:=hid hcs
 have hx:byt (bodyP pcs ind t ks .binary)=byt (held (lHeld t (kidAt ks 0)) (pcs ind (kidAt ks 0)))++(([32]++(t++[32]))++byt (held (rHeld t (kidAt ks 1)) (pcs ind (kidAt ks 1)))):=by simp [bodyP,byt_wd,byt_sp,byt_app]
 rw [hx] at hl ⊢
 have HPC1:=hid (hA.kid 0)
 have HPC2:=hid (hA.kid 1)
 have hwt1:=Nat.le_trans (kidAt_wtP (.mk k t f e ks) 0) hw
 have hdp1:=Nat.le_trans (Nat.add_le_add_left (kidAt_deep (.mk k t f e ks) 0) ind) hd
 have hwt2:=Nat.le_trans (kidAt_wtP (.mk k t f e ks) 1) hw
 have hdp2:=Nat.le_trans (Nat.add_le_add_left (kidAt_deep (.mk k t f e ks) 1) ind) hd
 change wtP (kidAt ks 0)≤_ at hwt1
 change ind+deep (kidAt ks 0)≤_ at hdp1
 change wtP (kidAt ks 1)≤_ at hwt2
 change ind+deep (kidAt ks 1)≤_ at hdp2
 have cA:=fun X (hX:Below d W X)=>kidOf_any (.mk k t f e ks) (.slice a n c) (fun g=>g<d) X 0 (hv.later hX) hw (by decide)
 have cB:=fun X (hX:Below d W X)=>kidOf_any (.mk k t f e ks) (.slice a n c) (fun g=>g<d) X 1 (hv.later hX) hw (by decide)
 rw [← HV.out] at cA cB
 change ∀ X,Below d W X→Calls _ _ _ _ (KidPost (kidAt ks 0) _ _) at cA
 change ∀ X,Below d W X→Calls _ _ _ _ (KidPost (kidAt ks 1) _ _) at cB
 obtain ⟨P1,hP1⟩:∃ Q,kidAt ks 0=Q:=⟨_,rfl⟩
 obtain ⟨P2,hP2⟩:∃ Q,kidAt ks 1=Q:=⟨_,rfl⟩
 rw [hP1] at hwt1 hdp1 cA hl HPC1 ⊢
 rw [hP2] at hwt2 hdp2 cB hl HPC2 ⊢
 obtain ⟨x1,hx1⟩:∃ x:By,byt (held (lHeld t P1) (pcs ind P1))=x:=⟨_,rfl⟩
 obtain ⟨x2,hx2⟩:∃ x:By,byt (held (rHeld t P2) (pcs ind P2))=x:=⟨_,rfl⟩
 rw [hx1,hx2] at hl ⊢
 have HX1:=hid hx1
 have HX2:=hid hx2
 simp only [List.length_append,List.length_cons,List.length_nil] at hl
 have HL:=hid hl
 clear hx hcs hkb htb hn hP1 hP2 hA hx1 hx2
 obtain ⟨k1,t1,f1,e1',ks1⟩:=P1
 obtain ⟨k2,t2,f2,e2',ks2⟩:=P2
 obtain ⟨kb1,hkb1⟩:∃ x,bstr k1=x:=⟨_,rfl⟩
 obtain ⟨tb1,htb1⟩:∃ x,bstr t1=x:=⟨_,rfl⟩
 obtain ⟨n1,hn1⟩:∃ n,ks1.length=n:=⟨_,rfl⟩
 obtain ⟨kb2,hkb2⟩:∃ x,bstr k2=x:=⟨_,rfl⟩
 obtain ⟨tb2,htb2⟩:∃ x,bstr t2=x:=⟨_,rfl⟩
 obtain ⟨n2,hn2⟩:∃ n,ks2.length=n:=⟨_,rfl⟩
 have HKB1:=hid hkb1
 have HTB1:=hid htb1
 have HN1:=hid hn1
 have HKB2:=hid hkb2
 have HTB2:=hid htb2
 have HN2:=hid hn2
 have cA':∀ X,Below d W X→Calls Tryz.prog 104 #[.agg #[.string kb,.string tb,.int .i64 f,.int .i64 e,.slice a n c],.int .i64 0] X fun e' w'=>∃ a1 c1,e'=.returned (.agg #[.string kb1,.string tb1,.int .i64 f1,.int .i64 e1',.slice a1 n1 c1])∧Lies d (.mk k1 t1 f1 e1' ks1) (.slice a1 n1 c1) w'∧Below X.heap.size X w':=fun X hX=>(cA X hX).mono fun e' w' ⟨lv',h1,h2,h3⟩=>by
  obtain ⟨a1,c1,rfl⟩:=J.kids_form h2
  exact ⟨a1,c1,by rw [h1,← hkb1,← htb1,← hn1];rfl,by rw [← hn1];exact h2,h3⟩
 have cB':∀ X,Below d W X→Calls Tryz.prog 104 #[.agg #[.string kb,.string tb,.int .i64 f,.int .i64 e,.slice a n c],.int .i64 1] X fun e' w'=>∃ a2 c2,e'=.returned (.agg #[.string kb2,.string tb2,.int .i64 f2,.int .i64 e2',.slice a2 n2 c2])∧Lies d (.mk k2 t2 f2 e2' ks2) (.slice a2 n2 c2) w'∧Below X.heap.size X w':=fun X hX=>(cB X hX).mono fun e' w' ⟨lv',h1,h2,h3⟩=>by
  obtain ⟨a2,c2,rfl⟩:=J.kids_form h2
  exact ⟨a2,c2,by rw [h1,← hkb2,← htb2,← hn2];rfl,by rw [← hn2];exact h2,h3⟩
 clear hkb1 htb1 hn1 hkb2 htb2 hn2 cA cB
 obtain ⟨sp,hsp⟩:∃ z:Int,((strB t:Nat):Int)=z:=⟨_,rfl⟩
 have HSP:=hid hsp
 have c0:=fun X=>strength_any t tb HTB.out X
 rw [hsp] at c0
 clear hsp
 go_enter Tryz.func70,Tryz.ntmps70
 go_upto_region 1 with fail
 obtain ⟨w1,hw1,hq1,hb1,hz1⟩:=new_block W (.cells #[.string kb,.string tb,.int .i64 f,.int .i64 e,.slice a n c] 25)
 rw [hw1]
 have HF:=hid (Fr.begin h hv hb1 hq1)
 have hbd:=hb1.mono (Nat.le_of_lt h.bx.lt)
 have cK1:=fun X (hX:Below w1.heap.size w1 X)=>cA' X (hbd.trans (hX.mono (Nat.le_trans (Nat.le_of_lt h.bx.lt) hb1.size)))
 have cK2:=fun X (hX:Below w1.heap.size w1 X)=>cB' X (hbd.trans (hX.mono (Nat.le_trans (Nat.le_of_lt h.bx.lt) hb1.size)))
 obtain ⟨⟨p0,p1,p2,p3,p4⟩,pf⟩:=J.cells_five hq1
 have c1:=c0 w1
 clear hw1 hq1 hb1 hz1 cA' cB' c0
 go_wp2_with fail
 refine c1.mono ?_
 rintro e' w2 ⟨rfl,hw2⟩
 rw [hw2]
 clear hw2 w2
 clear c1 p0 p1 p2 p3 p4 pf
 obtain ⟨b,hb⟩:∃ b,W.heap.size=b:=⟨_,rfl⟩
 rw [hb] at HF ⊢
 clear hb hbd hv h
 go_upto_region 2 with fail
 go_cut [5,6] (fun v5 v6 wx=>∃ b1 b2 a1 c1 a2 c2,v5=.pointer (some ⟨b1,0,none⟩)∧v6=.pointer (some ⟨b2,0,none⟩)∧Hid (Pair d m ind bs (.mk k t f e ks) (.slice a n c) #[.string kb,.string tb,.int .i64 f,.int .i64 e,.slice a n c] b W (.mk k1 t1 f1 e1' ks1) (.mk k2 t2 f2 e2' ks2) (.slice a1 n1 c1) (.slice a2 n2 c2) #[.string kb1,.string tb1,.int .i64 f1,.int .i64 e1',.slice a1 n1 c1] #[.string kb2,.string tb2,.int .i64 f2,.int .i64 e2',.slice a2 n2 c2] b1 b2 wx))
 case first =>
  refine wp_region_held_drew (S:=fun X:World=>X.heap[b]?=some (.cells #[.string kb,.string tb,.int .i64 f,.int .i64 e,.slice a n c] 25 (0,0))) (by kernel_rfl) HF.out.box (fun hHeld=>?_)
  have hB0:Below w1.heap.size w1 w1.drew:=(Below.refl _ _).drew
  generalize w1.drew=v0 at hB0 hHeld ⊢
  refine wpAnyH_take (i:=0) (oi:=({ dst:=some 10,op:=Op.load 25 (Operand.tmp 3),type:=25,pos := "writer.go:200",after:=#[],guard:=none }:Oper)) (v:=(.agg #[.string kb,.string tb,.int .i64 f,.int .i64 e,.slice a n c])) rfl (by kernel_rfl) (by kernel_rfl) (by kernel_rfl) (fun _ _ _ h=>h) (yields_load 25 (.tmp 3) rfl (by rfl) (fun X hX=>load_five hX)) hHeld ?_
  (try simp only [Act.put,List.setIfInBounds_toArray,List.set_cons_zero,List.set_cons_succ])
  refine wpAnyH_take (i:=2) (oi:=({ dst:=some 12,op:=Op.load 25 (Operand.tmp 3),type:=25,pos := "writer.go:200",after:=#[],guard:=none }:Oper)) (v:=(.agg #[.string kb,.string tb,.int .i64 f,.int .i64 e,.slice a n c])) rfl (by kernel_rfl) (by kernel_rfl) (by kernel_rfl) (fun _ _ _ h=>h) (yields_load 25 (.tmp 3) rfl (by rfl) (fun X hX=>load_five hX)) hHeld ?_
  (try simp only [Act.put,List.setIfInBounds_toArray,List.set_cons_zero,List.set_cons_succ])
  refine wpAnyH_ready (rs:=[1,4,5]) (by kernel_rfl) (by simp) ?_
  refine (AllReadyH.cons (o:=OP.p67) rfl (fun K hK=>?_) (AllReadyH.cons (o:=OP.p68) rfl (fun K hK=>?_) (AllReadyH.cons (o:=OP.p69) rfl (fun K hK=>?_) AllReadyH.nil)))
  ·refine wanted_step (by kernel_rfl) ?_
   go_simp
   go_at_call 104
   refine (cK1 _ hB0).mono ?_
   rintro e' Y1 ⟨a1,c1,rfl,hk1,hY1⟩
   dsimp only
   have hB1:=hB0.trans (hY1.mono (hB0).size)
   have hd1:Below d v0 Y1:=hY1.mono (Nat.le_trans (Nat.le_of_lt HF.out.wr.bx.lt) (hB0).size)
   refine hK.out _ _ ((hB1.block _ (Array.getElem?_eq_some_iff.1 HF.out.box).1).trans HF.out.box) (fun hHeld=>?_)
   (try simp only [Act.put,List.setIfInBounds_toArray,List.set_cons_zero,List.set_cons_succ])
   clear hK K
   refine wpAnyH_ready (rs:=[3,4,5]) (by kernel_rfl) (by simp) ?_
   refine (AllReadyH.cons (o:=OP.p70) rfl (fun K hK=>?_) (AllReadyH.cons (o:=OP.p68) rfl (fun K hK=>?_) (AllReadyH.cons (o:=OP.p69) rfl (fun K hK=>?_) AllReadyH.nil)))
   ·refine wanted_step (by kernel_rfl) ?_
    go_simp
    go_at_call 104
    refine (cK2 _ hB1).mono ?_
    rintro e' Y2 ⟨a2,c2,rfl,hk2,hY2⟩
    dsimp only
    have hB2:=hB1.trans (hY2.mono (hB1).size)
    have hd2:Below d Y1 Y2:=hY2.mono (Nat.le_trans (Nat.le_of_lt HF.out.wr.bx.lt) (hB1).size)
    refine hK.out _ _ ((hB2.block _ (Array.getElem?_eq_some_iff.1 HF.out.box).1).trans HF.out.box) (fun hHeld=>?_)
    (try simp only [Act.put,List.setIfInBounds_toArray,List.set_cons_zero,List.set_cons_succ])
    clear hK K
    refine wpAnyH_ready (rs:=[4,5]) (by kernel_rfl) (by simp) ?_
    refine (AllReadyH.cons (o:=OP.p68) rfl (fun K hK=>?_) (AllReadyH.cons (o:=OP.p69) rfl (fun K hK=>?_) AllReadyH.nil))
    ·refine wanted_step (by kernel_rfl) ?_
     go_simp
     obtain ⟨Y3,hYe3,p4h,hY3,p4s⟩:=J.new_block Y2 (.cells #[.string ⟨#[]⟩,.string ⟨#[]⟩,.int .i64 0,.int .i64 0,.slice none 0 0] 25)
     have hB3:=hB2.trans (hY3.mono (hB2).size)
     obtain ⟨p4,hp3⟩:∃ x,(Y2).heap.size=x:=⟨_,rfl⟩
     have p4l:w1.heap.size≤p4:=by rw [← hp3];exact (hB2).size
     have hd3:Below d Y2 Y3:=hY3.mono (Nat.le_trans (Nat.le_of_lt HF.out.wr.bx.lt) (hB2).size)
     rw [hYe3]
     try rw [hp3]
     rw [hp3] at p4h p4s
     refine hK.out _ _ ((hB3.block _ (Array.getElem?_eq_some_iff.1 HF.out.box).1).trans HF.out.box) (fun hHeld=>?_)
     (try simp only [Act.put,List.setIfInBounds_toArray,List.set_cons_zero,List.set_cons_succ])
     clear hK K
     refine wpAnyH_ready (rs:=[5]) (by kernel_rfl) (by simp) ?_
     refine (AllReadyH.cons (o:=OP.p69) rfl (fun K hK=>?_) AllReadyH.nil)
     ·refine wanted_step (by kernel_rfl) ?_
      go_simp
      obtain ⟨Y4,hYe4,p5h,hY4,p5s⟩:=J.new_block Y3 (.cells #[.string ⟨#[]⟩,.string ⟨#[]⟩,.int .i64 0,.int .i64 0,.slice none 0 0] 25)
      have hB4:=hB3.trans (hY4.mono (hB3).size)
      obtain ⟨p5,hp4⟩:∃ x,(Y3).heap.size=x:=⟨_,rfl⟩
      have p5l:w1.heap.size≤p5:=by rw [← hp4];exact (hB3).size
      have hd4:Below d Y3 Y4:=hY4.mono (Nat.le_trans (Nat.le_of_lt HF.out.wr.bx.lt) (hB3).size)
      have hlt4:p4<p5:=by rw [← hp4];exact p4s
      have p4h:=(hY4.block _ p4s).trans p4h
      have p4s:=Nat.lt_of_lt_of_le p4s hY4.size
      rw [hYe4]
      try rw [hp4]
      rw [hp4] at p5h p5s
      refine hK.out _ _ ((hB4.block _ (Array.getElem?_eq_some_iff.1 HF.out.box).1).trans HF.out.box) (fun hHeld=>?_)
      (try simp only [Act.put,List.setIfInBounds_toArray,List.set_cons_zero,List.set_cons_succ])
      clear hK K
      have hne:p4≠p5:=by omega
      have hk1e:=((((Below.refl d Y1).trans hd2).trans hd3).trans hd4)
      obtain ⟨Xf,Xg,hXf,hXg,hbf,hbg,g1,g2,hpair⟩:=pair_made (v0:=.string kb1) (v1:=.string tb1) (v2:=.int .i64 f1) (v3:=.int .i64 e1') (v4:=.slice a1 n1 c1) (u0:=.string kb2) (u1:=.string tb2) (u2:=.int .i64 f2) (u3:=.int .i64 e2') (u4:=.slice a2 n2 c2) HF.out hB4 p4h p5h p4l p5l hne hk1 hk2 ((((Below.refl d Y1).trans hd2).trans hd3).trans hd4) (((Below.refl d Y2).trans hd3).trans hd4)
      refine wpAnyH_ready (rs:=[6]) (by kernel_rfl) (by simp) ?_
      refine (AllReadyH.cons (o:=OP.p71) rfl (fun K hK=>?_) AllReadyH.nil)
      refine wanted_step (by kernel_rfl) ?_
      obtain ⟨⟨z0,z1,z2,z3,z4⟩,zf⟩:=J.cells_five p4h
      go_simp
      try rw [hXf]
      clear z0 z1 z2 z3 z4 zf
      refine hK.out _ _ (hbf) (fun hHeld=>?_)
      (try simp only [Act.put,List.setIfInBounds_toArray,List.set_cons_zero,List.set_cons_succ])
      clear hK K
      refine wpAnyH_ready (rs:=[7]) (by kernel_rfl) (by simp) ?_
      refine (AllReadyH.cons (o:=OP.p72) rfl (fun K hK=>?_) AllReadyH.nil)
      refine wanted_step (by kernel_rfl) ?_
      obtain ⟨⟨z0,z1,z2,z3,z4⟩,zf⟩:=J.cells_five (show Xf.heap[p5]?=some (.cells #[.string ⟨#[]⟩,.string ⟨#[]⟩,.int .i64 0,.int .i64 0,.slice none 0 0] 25 (0,0)) from by rw [← hXf];rw [Below.heap_setCell _ _ _ _ (fun e=>hne e.symm),Below.heap_setCell _ _ _ _ (fun e=>hne e.symm),Below.heap_setCell _ _ _ _ (fun e=>hne e.symm),Below.heap_setCell _ _ _ _ (fun e=>hne e.symm),Below.heap_setCell _ _ _ _ (fun e=>hne e.symm)];exact p5h)
      go_simp
      try rw [hXg]
      clear z0 z1 z2 z3 z4 zf
      refine hK.out _ _ (hbg) (fun hHeld=>?_)
      (try simp only [Act.put,List.setIfInBounds_toArray,List.set_cons_zero,List.set_cons_succ])
      clear hK K
      refine wpAnyH_done (by kernel_rfl) ?_ _
      clear hHeld
      (try go_wp2_with fail)
      go_meet
      exact ⟨p4,p5,a1,c1,a2,c2,rfl,rfl,hid hpair⟩
    ·refine wanted_step (by kernel_rfl) ?_
     go_simp
     obtain ⟨Y3,hYe3,p5h,hY3,p5s⟩:=J.new_block Y2 (.cells #[.string ⟨#[]⟩,.string ⟨#[]⟩,.int .i64 0,.int .i64 0,.slice none 0 0] 25)
     have hB3:=hB2.trans (hY3.mono (hB2).size)
     obtain ⟨p5,hp3⟩:∃ x,(Y2).heap.size=x:=⟨_,rfl⟩
     have p5l:w1.heap.size≤p5:=by rw [← hp3];exact (hB2).size
     have hd3:Below d Y2 Y3:=hY3.mono (Nat.le_trans (Nat.le_of_lt HF.out.wr.bx.lt) (hB2).size)
     rw [hYe3]
     try rw [hp3]
     rw [hp3] at p5h p5s
     refine hK.out _ _ ((hB3.block _ (Array.getElem?_eq_some_iff.1 HF.out.box).1).trans HF.out.box) (fun hHeld=>?_)
     (try simp only [Act.put,List.setIfInBounds_toArray,List.set_cons_zero,List.set_cons_succ])
     clear hK K
     refine wpAnyH_ready (rs:=[4]) (by kernel_rfl) (by simp) ?_
     refine (AllReadyH.cons (o:=OP.p68) rfl (fun K hK=>?_) AllReadyH.nil)
     ·refine wanted_step (by kernel_rfl) ?_
      go_simp
      obtain ⟨Y4,hYe4,p4h,hY4,p4s⟩:=J.new_block Y3 (.cells #[.string ⟨#[]⟩,.string ⟨#[]⟩,.int .i64 0,.int .i64 0,.slice none 0 0] 25)
      have hB4:=hB3.trans (hY4.mono (hB3).size)
      obtain ⟨p4,hp4⟩:∃ x,(Y3).heap.size=x:=⟨_,rfl⟩
      have p4l:w1.heap.size≤p4:=by rw [← hp4];exact (hB3).size
      have hd4:Below d Y3 Y4:=hY4.mono (Nat.le_trans (Nat.le_of_lt HF.out.wr.bx.lt) (hB3).size)
      have hlt4:p5<p4:=by rw [← hp4];exact p5s
      have p5h:=(hY4.block _ p5s).trans p5h
      have p5s:=Nat.lt_of_lt_of_le p5s hY4.size
      rw [hYe4]
      try rw [hp4]
      rw [hp4] at p4h p4s
      refine hK.out _ _ ((hB4.block _ (Array.getElem?_eq_some_iff.1 HF.out.box).1).trans HF.out.box) (fun hHeld=>?_)
      (try simp only [Act.put,List.setIfInBounds_toArray,List.set_cons_zero,List.set_cons_succ])
      clear hK K
      have hne:p4≠p5:=by omega
      have hk1e:=((((Below.refl d Y1).trans hd2).trans hd3).trans hd4)
      obtain ⟨Xf,Xg,hXf,hXg,hbf,hbg,g1,g2,hpair⟩:=pair_made (v0:=.string kb1) (v1:=.string tb1) (v2:=.int .i64 f1) (v3:=.int .i64 e1') (v4:=.slice a1 n1 c1) (u0:=.string kb2) (u1:=.string tb2) (u2:=.int .i64 f2) (u3:=.int .i64 e2') (u4:=.slice a2 n2 c2) HF.out hB4 p4h p5h p4l p5l hne hk1 hk2 ((((Below.refl d Y1).trans hd2).trans hd3).trans hd4) (((Below.refl d Y2).trans hd3).trans hd4)
      refine wpAnyH_ready (rs:=[6]) (by kernel_rfl) (by simp) ?_
      refine (AllReadyH.cons (o:=OP.p71) rfl (fun K hK=>?_) AllReadyH.nil)
      refine wanted_step (by kernel_rfl) ?_
      obtain ⟨⟨z0,z1,z2,z3,z4⟩,zf⟩:=J.cells_five p4h
      go_simp
      try rw [hXf]
      clear z0 z1 z2 z3 z4 zf
      refine hK.out _ _ (hbf) (fun hHeld=>?_)
      (try simp only [Act.put,List.setIfInBounds_toArray,List.set_cons_zero,List.set_cons_succ])
      clear hK K
      refine wpAnyH_ready (rs:=[7]) (by kernel_rfl) (by simp) ?_
      refine (AllReadyH.cons (o:=OP.p72) rfl (fun K hK=>?_) AllReadyH.nil)
      refine wanted_step (by kernel_rfl) ?_
      obtain ⟨⟨z0,z1,z2,z3,z4⟩,zf⟩:=J.cells_five (show Xf.heap[p5]?=some (.cells #[.string ⟨#[]⟩,.string ⟨#[]⟩,.int .i64 0,.int .i64 0,.slice none 0 0] 25 (0,0)) from by rw [← hXf];rw [Below.heap_setCell _ _ _ _ (fun e=>hne e.symm),Below.heap_setCell _ _ _ _ (fun e=>hne e.symm),Below.heap_setCell _ _ _ _ (fun e=>hne e.symm),Below.heap_setCell _ _ _ _ (fun e=>hne e.symm),Below.heap_setCell _ _ _ _ (fun e=>hne e.symm)];exact p5h)
      go_simp
      try rw [hXg]
      clear z0 z1 z2 z3 z4 zf
      refine hK.out _ _ (hbg) (fun hHeld=>?_)
      (try simp only [Act.put,List.setIfInBounds_toArray,List.set_cons_zero,List.set_cons_succ])
      clear hK K
      refine wpAnyH_done (by kernel_rfl) ?_ _
      clear hHeld
      (try go_wp2_with fail)
      go_meet
      exact ⟨p4,p5,a1,c1,a2,c2,rfl,rfl,hid hpair⟩
   ·refine wanted_step (by kernel_rfl) ?_
    go_simp
    obtain ⟨Y2,hYe2,p4h,hY2,p4s⟩:=J.new_block Y1 (.cells #[.string ⟨#[]⟩,.string ⟨#[]⟩,.int .i64 0,.int .i64 0,.slice none 0 0] 25)
    have hB2:=hB1.trans (hY2.mono (hB1).size)
    obtain ⟨p4,hp2⟩:∃ x,(Y1).heap.size=x:=⟨_,rfl⟩
    have p4l:w1.heap.size≤p4:=by rw [← hp2];exact (hB1).size
    have hd2:Below d Y1 Y2:=hY2.mono (Nat.le_trans (Nat.le_of_lt HF.out.wr.bx.lt) (hB1).size)
    rw [hYe2]
    try rw [hp2]
    rw [hp2] at p4h p4s
    refine hK.out _ _ ((hB2.block _ (Array.getElem?_eq_some_iff.1 HF.out.box).1).trans HF.out.box) (fun hHeld=>?_)
    (try simp only [Act.put,List.setIfInBounds_toArray,List.set_cons_zero,List.set_cons_succ])
    clear hK K
    refine wpAnyH_ready (rs:=[3,5]) (by kernel_rfl) (by simp) ?_
    refine (AllReadyH.cons (o:=OP.p70) rfl (fun K hK=>?_) (AllReadyH.cons (o:=OP.p69) rfl (fun K hK=>?_) AllReadyH.nil))
    ·refine wanted_step (by kernel_rfl) ?_
     go_simp
     go_at_call 104
     refine (cK2 _ hB2).mono ?_
     rintro e' Y3 ⟨a2,c2,rfl,hk2,hY3⟩
     dsimp only
     have hB3:=hB2.trans (hY3.mono (hB2).size)
     have hd3:Below d Y2 Y3:=hY3.mono (Nat.le_trans (Nat.le_of_lt HF.out.wr.bx.lt) (hB2).size)
     have p4h:=(hY3.block _ p4s).trans p4h
     have p4s:=Nat.lt_of_lt_of_le p4s hY3.size
     refine hK.out _ _ ((hB3.block _ (Array.getElem?_eq_some_iff.1 HF.out.box).1).trans HF.out.box) (fun hHeld=>?_)
     (try simp only [Act.put,List.setIfInBounds_toArray,List.set_cons_zero,List.set_cons_succ])
     clear hK K
     refine wpAnyH_ready (rs:=[5]) (by kernel_rfl) (by simp) ?_
     refine (AllReadyH.cons (o:=OP.p69) rfl (fun K hK=>?_) AllReadyH.nil)
     ·refine wanted_step (by kernel_rfl) ?_
      go_simp
      obtain ⟨Y4,hYe4,p5h,hY4,p5s⟩:=J.new_block Y3 (.cells #[.string ⟨#[]⟩,.string ⟨#[]⟩,.int .i64 0,.int .i64 0,.slice none 0 0] 25)
      have hB4:=hB3.trans (hY4.mono (hB3).size)
      obtain ⟨p5,hp4⟩:∃ x,(Y3).heap.size=x:=⟨_,rfl⟩
      have p5l:w1.heap.size≤p5:=by rw [← hp4];exact (hB3).size
      have hd4:Below d Y3 Y4:=hY4.mono (Nat.le_trans (Nat.le_of_lt HF.out.wr.bx.lt) (hB3).size)
      have hlt4:p4<p5:=by rw [← hp4];exact p4s
      have p4h:=(hY4.block _ p4s).trans p4h
      have p4s:=Nat.lt_of_lt_of_le p4s hY4.size
      rw [hYe4]
      try rw [hp4]
      rw [hp4] at p5h p5s
      refine hK.out _ _ ((hB4.block _ (Array.getElem?_eq_some_iff.1 HF.out.box).1).trans HF.out.box) (fun hHeld=>?_)
      (try simp only [Act.put,List.setIfInBounds_toArray,List.set_cons_zero,List.set_cons_succ])
      clear hK K
      have hne:p4≠p5:=by omega
      have hk1e:=((((Below.refl d Y1).trans hd2).trans hd3).trans hd4)
      obtain ⟨Xf,Xg,hXf,hXg,hbf,hbg,g1,g2,hpair⟩:=pair_made (v0:=.string kb1) (v1:=.string tb1) (v2:=.int .i64 f1) (v3:=.int .i64 e1') (v4:=.slice a1 n1 c1) (u0:=.string kb2) (u1:=.string tb2) (u2:=.int .i64 f2) (u3:=.int .i64 e2') (u4:=.slice a2 n2 c2) HF.out hB4 p4h p5h p4l p5l hne hk1 hk2 ((((Below.refl d Y1).trans hd2).trans hd3).trans hd4) ((Below.refl d Y3).trans hd4)
      refine wpAnyH_ready (rs:=[6]) (by kernel_rfl) (by simp) ?_
      refine (AllReadyH.cons (o:=OP.p71) rfl (fun K hK=>?_) AllReadyH.nil)
      refine wanted_step (by kernel_rfl) ?_
      obtain ⟨⟨z0,z1,z2,z3,z4⟩,zf⟩:=J.cells_five p4h
      go_simp
      try rw [hXf]
      clear z0 z1 z2 z3 z4 zf
      refine hK.out _ _ (hbf) (fun hHeld=>?_)
      (try simp only [Act.put,List.setIfInBounds_toArray,List.set_cons_zero,List.set_cons_succ])
      clear hK K
      refine wpAnyH_ready (rs:=[7]) (by kernel_rfl) (by simp) ?_
      refine (AllReadyH.cons (o:=OP.p72) rfl (fun K hK=>?_) AllReadyH.nil)
      refine wanted_step (by kernel_rfl) ?_
      obtain ⟨⟨z0,z1,z2,z3,z4⟩,zf⟩:=J.cells_five (show Xf.heap[p5]?=some (.cells #[.string ⟨#[]⟩,.string ⟨#[]⟩,.int .i64 0,.int .i64 0,.slice none 0 0] 25 (0,0)) from by rw [← hXf];rw [Below.heap_setCell _ _ _ _ (fun e=>hne e.symm),Below.heap_setCell _ _ _ _ (fun e=>hne e.symm),Below.heap_setCell _ _ _ _ (fun e=>hne e.symm),Below.heap_setCell _ _ _ _ (fun e=>hne e.symm),Below.heap_setCell _ _ _ _ (fun e=>hne e.symm)];exact p5h)
      go_simp
      try rw [hXg]
      clear z0 z1 z2 z3 z4 zf
      refine hK.out _ _ (hbg) (fun hHeld=>?_)
      (try simp only [Act.put,List.setIfInBounds_toArray,List.set_cons_zero,List.set_cons_succ])
      clear hK K
      refine wpAnyH_done (by kernel_rfl) ?_ _
      clear hHeld
      (try go_wp2_with fail)
      go_meet
      exact ⟨p4,p5,a1,c1,a2,c2,rfl,rfl,hid hpair⟩
    ·refine wanted_step (by kernel_rfl) ?_
     go_simp
     obtain ⟨Y3,hYe3,p5h,hY3,p5s⟩:=J.new_block Y2 (.cells #[.string ⟨#[]⟩,.string ⟨#[]⟩,.int .i64 0,.int .i64 0,.slice none 0 0] 25)
     have hB3:=hB2.trans (hY3.mono (hB2).size)
     obtain ⟨p5,hp3⟩:∃ x,(Y2).heap.size=x:=⟨_,rfl⟩
     have p5l:w1.heap.size≤p5:=by rw [← hp3];exact (hB2).size
     have hd3:Below d Y2 Y3:=hY3.mono (Nat.le_trans (Nat.le_of_lt HF.out.wr.bx.lt) (hB2).size)
     have hlt3:p4<p5:=by rw [← hp3];exact p4s
     have p4h:=(hY3.block _ p4s).trans p4h
     have p4s:=Nat.lt_of_lt_of_le p4s hY3.size
     rw [hYe3]
     try rw [hp3]
     rw [hp3] at p5h p5s
     refine hK.out _ _ ((hB3.block _ (Array.getElem?_eq_some_iff.1 HF.out.box).1).trans HF.out.box) (fun hHeld=>?_)
     (try simp only [Act.put,List.setIfInBounds_toArray,List.set_cons_zero,List.set_cons_succ])
     clear hK K
     refine wpAnyH_ready (rs:=[3]) (by kernel_rfl) (by simp) ?_
     refine (AllReadyH.cons (o:=OP.p70) rfl (fun K hK=>?_) AllReadyH.nil)
     ·refine wanted_step (by kernel_rfl) ?_
      go_simp
      go_at_call 104
      refine (cK2 _ hB3).mono ?_
      rintro e' Y4 ⟨a2,c2,rfl,hk2,hY4⟩
      dsimp only
      have hB4:=hB3.trans (hY4.mono (hB3).size)
      have hd4:Below d Y3 Y4:=hY4.mono (Nat.le_trans (Nat.le_of_lt HF.out.wr.bx.lt) (hB3).size)
      have p4h:=(hY4.block _ p4s).trans p4h
      have p4s:=Nat.lt_of_lt_of_le p4s hY4.size
      have p5h:=(hY4.block _ p5s).trans p5h
      have p5s:=Nat.lt_of_lt_of_le p5s hY4.size
      refine hK.out _ _ ((hB4.block _ (Array.getElem?_eq_some_iff.1 HF.out.box).1).trans HF.out.box) (fun hHeld=>?_)
      (try simp only [Act.put,List.setIfInBounds_toArray,List.set_cons_zero,List.set_cons_succ])
      clear hK K
      have hne:p4≠p5:=by omega
      have hk1e:=((((Below.refl d Y1).trans hd2).trans hd3).trans hd4)
      obtain ⟨Xf,Xg,hXf,hXg,hbf,hbg,g1,g2,hpair⟩:=pair_made (v0:=.string kb1) (v1:=.string tb1) (v2:=.int .i64 f1) (v3:=.int .i64 e1') (v4:=.slice a1 n1 c1) (u0:=.string kb2) (u1:=.string tb2) (u2:=.int .i64 f2) (u3:=.int .i64 e2') (u4:=.slice a2 n2 c2) HF.out hB4 p4h p5h p4l p5l hne hk1 hk2 ((((Below.refl d Y1).trans hd2).trans hd3).trans hd4) (Below.refl d Y4)
      refine wpAnyH_ready (rs:=[6]) (by kernel_rfl) (by simp) ?_
      refine (AllReadyH.cons (o:=OP.p71) rfl (fun K hK=>?_) AllReadyH.nil)
      refine wanted_step (by kernel_rfl) ?_
      obtain ⟨⟨z0,z1,z2,z3,z4⟩,zf⟩:=J.cells_five p4h
      go_simp
      try rw [hXf]
      clear z0 z1 z2 z3 z4 zf
      refine hK.out _ _ (hbf) (fun hHeld=>?_)
      (try simp only [Act.put,List.setIfInBounds_toArray,List.set_cons_zero,List.set_cons_succ])
      clear hK K
      refine wpAnyH_ready (rs:=[7]) (by kernel_rfl) (by simp) ?_
      refine (AllReadyH.cons (o:=OP.p72) rfl (fun K hK=>?_) AllReadyH.nil)
      refine wanted_step (by kernel_rfl) ?_
      obtain ⟨⟨z0,z1,z2,z3,z4⟩,zf⟩:=J.cells_five (show Xf.heap[p5]?=some (.cells #[.string ⟨#[]⟩,.string ⟨#[]⟩,.int .i64 0,.int .i64 0,.slice none 0 0] 25 (0,0)) from by rw [← hXf];rw [Below.heap_setCell _ _ _ _ (fun e=>hne e.symm),Below.heap_setCell _ _ _ _ (fun e=>hne e.symm),Below.heap_setCell _ _ _ _ (fun e=>hne e.symm),Below.heap_setCell _ _ _ _ (fun e=>hne e.symm),Below.heap_setCell _ _ _ _ (fun e=>hne e.symm)];exact p5h)
      go_simp
      try rw [hXg]
      clear z0 z1 z2 z3 z4 zf
      refine hK.out _ _ (hbg) (fun hHeld=>?_)
      (try simp only [Act.put,List.setIfInBounds_toArray,List.set_cons_zero,List.set_cons_succ])
      clear hK K
      refine wpAnyH_done (by kernel_rfl) ?_ _
      clear hHeld
      (try go_wp2_with fail)
      go_meet
      exact ⟨p4,p5,a1,c1,a2,c2,rfl,rfl,hid hpair⟩
   ·refine wanted_step (by kernel_rfl) ?_
    go_simp
    obtain ⟨Y2,hYe2,p5h,hY2,p5s⟩:=J.new_block Y1 (.cells #[.string ⟨#[]⟩,.string ⟨#[]⟩,.int .i64 0,.int .i64 0,.slice none 0 0] 25)
    have hB2:=hB1.trans (hY2.mono (hB1).size)
    obtain ⟨p5,hp2⟩:∃ x,(Y1).heap.size=x:=⟨_,rfl⟩
    have p5l:w1.heap.size≤p5:=by rw [← hp2];exact (hB1).size
    have hd2:Below d Y1 Y2:=hY2.mono (Nat.le_trans (Nat.le_of_lt HF.out.wr.bx.lt) (hB1).size)
    rw [hYe2]
    try rw [hp2]
    rw [hp2] at p5h p5s
    refine hK.out _ _ ((hB2.block _ (Array.getElem?_eq_some_iff.1 HF.out.box).1).trans HF.out.box) (fun hHeld=>?_)
    (try simp only [Act.put,List.setIfInBounds_toArray,List.set_cons_zero,List.set_cons_succ])
    clear hK K
    refine wpAnyH_ready (rs:=[3,4]) (by kernel_rfl) (by simp) ?_
    refine (AllReadyH.cons (o:=OP.p70) rfl (fun K hK=>?_) (AllReadyH.cons (o:=OP.p68) rfl (fun K hK=>?_) AllReadyH.nil))
    ·refine wanted_step (by kernel_rfl) ?_
     go_simp
     go_at_call 104
     refine (cK2 _ hB2).mono ?_
     rintro e' Y3 ⟨a2,c2,rfl,hk2,hY3⟩
     dsimp only
     have hB3:=hB2.trans (hY3.mono (hB2).size)
     have hd3:Below d Y2 Y3:=hY3.mono (Nat.le_trans (Nat.le_of_lt HF.out.wr.bx.lt) (hB2).size)
     have p5h:=(hY3.block _ p5s).trans p5h
     have p5s:=Nat.lt_of_lt_of_le p5s hY3.size
     refine hK.out _ _ ((hB3.block _ (Array.getElem?_eq_some_iff.1 HF.out.box).1).trans HF.out.box) (fun hHeld=>?_)
     (try simp only [Act.put,List.setIfInBounds_toArray,List.set_cons_zero,List.set_cons_succ])
     clear hK K
     refine wpAnyH_ready (rs:=[4]) (by kernel_rfl) (by simp) ?_
     refine (AllReadyH.cons (o:=OP.p68) rfl (fun K hK=>?_) AllReadyH.nil)
     ·refine wanted_step (by kernel_rfl) ?_
      go_simp
      obtain ⟨Y4,hYe4,p4h,hY4,p4s⟩:=J.new_block Y3 (.cells #[.string ⟨#[]⟩,.string ⟨#[]⟩,.int .i64 0,.int .i64 0,.slice none 0 0] 25)
      have hB4:=hB3.trans (hY4.mono (hB3).size)
      obtain ⟨p4,hp4⟩:∃ x,(Y3).heap.size=x:=⟨_,rfl⟩
      have p4l:w1.heap.size≤p4:=by rw [← hp4];exact (hB3).size
      have hd4:Below d Y3 Y4:=hY4.mono (Nat.le_trans (Nat.le_of_lt HF.out.wr.bx.lt) (hB3).size)
      have hlt4:p5<p4:=by rw [← hp4];exact p5s
      have p5h:=(hY4.block _ p5s).trans p5h
      have p5s:=Nat.lt_of_lt_of_le p5s hY4.size
      rw [hYe4]
      try rw [hp4]
      rw [hp4] at p4h p4s
      refine hK.out _ _ ((hB4.block _ (Array.getElem?_eq_some_iff.1 HF.out.box).1).trans HF.out.box) (fun hHeld=>?_)
      (try simp only [Act.put,List.setIfInBounds_toArray,List.set_cons_zero,List.set_cons_succ])
      clear hK K
      have hne:p4≠p5:=by omega
      have hk1e:=((((Below.refl d Y1).trans hd2).trans hd3).trans hd4)
      obtain ⟨Xf,Xg,hXf,hXg,hbf,hbg,g1,g2,hpair⟩:=pair_made (v0:=.string kb1) (v1:=.string tb1) (v2:=.int .i64 f1) (v3:=.int .i64 e1') (v4:=.slice a1 n1 c1) (u0:=.string kb2) (u1:=.string tb2) (u2:=.int .i64 f2) (u3:=.int .i64 e2') (u4:=.slice a2 n2 c2) HF.out hB4 p4h p5h p4l p5l hne hk1 hk2 ((((Below.refl d Y1).trans hd2).trans hd3).trans hd4) ((Below.refl d Y3).trans hd4)
      refine wpAnyH_ready (rs:=[6]) (by kernel_rfl) (by simp) ?_
      refine (AllReadyH.cons (o:=OP.p71) rfl (fun K hK=>?_) AllReadyH.nil)
      refine wanted_step (by kernel_rfl) ?_
      obtain ⟨⟨z0,z1,z2,z3,z4⟩,zf⟩:=J.cells_five p4h
      go_simp
      try rw [hXf]
      clear z0 z1 z2 z3 z4 zf
      refine hK.out _ _ (hbf) (fun hHeld=>?_)
      (try simp only [Act.put,List.setIfInBounds_toArray,List.set_cons_zero,List.set_cons_succ])
      clear hK K
      refine wpAnyH_ready (rs:=[7]) (by kernel_rfl) (by simp) ?_
      refine (AllReadyH.cons (o:=OP.p72) rfl (fun K hK=>?_) AllReadyH.nil)
      refine wanted_step (by kernel_rfl) ?_
      obtain ⟨⟨z0,z1,z2,z3,z4⟩,zf⟩:=J.cells_five (show Xf.heap[p5]?=some (.cells #[.string ⟨#[]⟩,.string ⟨#[]⟩,.int .i64 0,.int .i64 0,.slice none 0 0] 25 (0,0)) from by rw [← hXf];rw [Below.heap_setCell _ _ _ _ (fun e=>hne e.symm),Below.heap_setCell _ _ _ _ (fun e=>hne e.symm),Below.heap_setCell _ _ _ _ (fun e=>hne e.symm),Below.heap_setCell _ _ _ _ (fun e=>hne e.symm),Below.heap_setCell _ _ _ _ (fun e=>hne e.symm)];exact p5h)
      go_simp
      try rw [hXg]
      clear z0 z1 z2 z3 z4 zf
      refine hK.out _ _ (hbg) (fun hHeld=>?_)
      (try simp only [Act.put,List.setIfInBounds_toArray,List.set_cons_zero,List.set_cons_succ])
      clear hK K
      refine wpAnyH_done (by kernel_rfl) ?_ _
      clear hHeld
      (try go_wp2_with fail)
      go_meet
      exact ⟨p4,p5,a1,c1,a2,c2,rfl,rfl,hid hpair⟩
    ·refine wanted_step (by kernel_rfl) ?_
     go_simp
     obtain ⟨Y3,hYe3,p4h,hY3,p4s⟩:=J.new_block Y2 (.cells #[.string ⟨#[]⟩,.string ⟨#[]⟩,.int .i64 0,.int .i64 0,.slice none 0 0] 25)
     have hB3:=hB2.trans (hY3.mono (hB2).size)
     obtain ⟨p4,hp3⟩:∃ x,(Y2).heap.size=x:=⟨_,rfl⟩
     have p4l:w1.heap.size≤p4:=by rw [← hp3];exact (hB2).size
     have hd3:Below d Y2 Y3:=hY3.mono (Nat.le_trans (Nat.le_of_lt HF.out.wr.bx.lt) (hB2).size)
     have hlt3:p5<p4:=by rw [← hp3];exact p5s
     have p5h:=(hY3.block _ p5s).trans p5h
     have p5s:=Nat.lt_of_lt_of_le p5s hY3.size
     rw [hYe3]
     try rw [hp3]
     rw [hp3] at p4h p4s
     refine hK.out _ _ ((hB3.block _ (Array.getElem?_eq_some_iff.1 HF.out.box).1).trans HF.out.box) (fun hHeld=>?_)
     (try simp only [Act.put,List.setIfInBounds_toArray,List.set_cons_zero,List.set_cons_succ])
     clear hK K
     refine wpAnyH_ready (rs:=[3]) (by kernel_rfl) (by simp) ?_
     refine (AllReadyH.cons (o:=OP.p70) rfl (fun K hK=>?_) AllReadyH.nil)
     ·refine wanted_step (by kernel_rfl) ?_
      go_simp
      go_at_call 104
      refine (cK2 _ hB3).mono ?_
      rintro e' Y4 ⟨a2,c2,rfl,hk2,hY4⟩
      dsimp only
      have hB4:=hB3.trans (hY4.mono (hB3).size)
      have hd4:Below d Y3 Y4:=hY4.mono (Nat.le_trans (Nat.le_of_lt HF.out.wr.bx.lt) (hB3).size)
      have p4h:=(hY4.block _ p4s).trans p4h
      have p4s:=Nat.lt_of_lt_of_le p4s hY4.size
      have p5h:=(hY4.block _ p5s).trans p5h
      have p5s:=Nat.lt_of_lt_of_le p5s hY4.size
      refine hK.out _ _ ((hB4.block _ (Array.getElem?_eq_some_iff.1 HF.out.box).1).trans HF.out.box) (fun hHeld=>?_)
      (try simp only [Act.put,List.setIfInBounds_toArray,List.set_cons_zero,List.set_cons_succ])
      clear hK K
      have hne:p4≠p5:=by omega
      have hk1e:=((((Below.refl d Y1).trans hd2).trans hd3).trans hd4)
      obtain ⟨Xf,Xg,hXf,hXg,hbf,hbg,g1,g2,hpair⟩:=pair_made (v0:=.string kb1) (v1:=.string tb1) (v2:=.int .i64 f1) (v3:=.int .i64 e1') (v4:=.slice a1 n1 c1) (u0:=.string kb2) (u1:=.string tb2) (u2:=.int .i64 f2) (u3:=.int .i64 e2') (u4:=.slice a2 n2 c2) HF.out hB4 p4h p5h p4l p5l hne hk1 hk2 ((((Below.refl d Y1).trans hd2).trans hd3).trans hd4) (Below.refl d Y4)
      refine wpAnyH_ready (rs:=[6]) (by kernel_rfl) (by simp) ?_
      refine (AllReadyH.cons (o:=OP.p71) rfl (fun K hK=>?_) AllReadyH.nil)
      refine wanted_step (by kernel_rfl) ?_
      obtain ⟨⟨z0,z1,z2,z3,z4⟩,zf⟩:=J.cells_five p4h
      go_simp
      try rw [hXf]
      clear z0 z1 z2 z3 z4 zf
      refine hK.out _ _ (hbf) (fun hHeld=>?_)
      (try simp only [Act.put,List.setIfInBounds_toArray,List.set_cons_zero,List.set_cons_succ])
      clear hK K
      refine wpAnyH_ready (rs:=[7]) (by kernel_rfl) (by simp) ?_
      refine (AllReadyH.cons (o:=OP.p72) rfl (fun K hK=>?_) AllReadyH.nil)
      refine wanted_step (by kernel_rfl) ?_
      obtain ⟨⟨z0,z1,z2,z3,z4⟩,zf⟩:=J.cells_five (show Xf.heap[p5]?=some (.cells #[.string ⟨#[]⟩,.string ⟨#[]⟩,.int .i64 0,.int .i64 0,.slice none 0 0] 25 (0,0)) from by rw [← hXf];rw [Below.heap_setCell _ _ _ _ (fun e=>hne e.symm),Below.heap_setCell _ _ _ _ (fun e=>hne e.symm),Below.heap_setCell _ _ _ _ (fun e=>hne e.symm),Below.heap_setCell _ _ _ _ (fun e=>hne e.symm),Below.heap_setCell _ _ _ _ (fun e=>hne e.symm)];exact p5h)
      go_simp
      try rw [hXg]
      clear z0 z1 z2 z3 z4 zf
      refine hK.out _ _ (hbg) (fun hHeld=>?_)
      (try simp only [Act.put,List.setIfInBounds_toArray,List.set_cons_zero,List.set_cons_succ])
      clear hK K
      refine wpAnyH_done (by kernel_rfl) ?_ _
      clear hHeld
      (try go_wp2_with fail)
      go_meet
      exact ⟨p4,p5,a1,c1,a2,c2,rfl,rfl,hid hpair⟩
  ·refine wanted_step (by kernel_rfl) ?_
   go_simp
   obtain ⟨Y1,hYe1,p4h,hY1,p4s⟩:=J.new_block v0 (.cells #[.string ⟨#[]⟩,.string ⟨#[]⟩,.int .i64 0,.int .i64 0,.slice none 0 0] 25)
   have hB1:=hB0.trans (hY1.mono (hB0).size)
   obtain ⟨p4,hp1⟩:∃ x,(v0).heap.size=x:=⟨_,rfl⟩
   have p4l:w1.heap.size≤p4:=by rw [← hp1];exact (hB0).size
   have hd1:Below d v0 Y1:=hY1.mono (Nat.le_trans (Nat.le_of_lt HF.out.wr.bx.lt) (hB0).size)
   rw [hYe1]
   try rw [hp1]
   rw [hp1] at p4h p4s
   refine hK.out _ _ ((hB1.block _ (Array.getElem?_eq_some_iff.1 HF.out.box).1).trans HF.out.box) (fun hHeld=>?_)
   (try simp only [Act.put,List.setIfInBounds_toArray,List.set_cons_zero,List.set_cons_succ])
   clear hK K
   refine wpAnyH_ready (rs:=[1,5]) (by kernel_rfl) (by simp) ?_
   refine (AllReadyH.cons (o:=OP.p67) rfl (fun K hK=>?_) (AllReadyH.cons (o:=OP.p69) rfl (fun K hK=>?_) AllReadyH.nil))
   ·refine wanted_step (by kernel_rfl) ?_
    go_simp
    go_at_call 104
    refine (cK1 _ hB1).mono ?_
    rintro e' Y2 ⟨a1,c1,rfl,hk1,hY2⟩
    dsimp only
    have hB2:=hB1.trans (hY2.mono (hB1).size)
    have hd2:Below d Y1 Y2:=hY2.mono (Nat.le_trans (Nat.le_of_lt HF.out.wr.bx.lt) (hB1).size)
    have p4h:=(hY2.block _ p4s).trans p4h
    have p4s:=Nat.lt_of_lt_of_le p4s hY2.size
    refine hK.out _ _ ((hB2.block _ (Array.getElem?_eq_some_iff.1 HF.out.box).1).trans HF.out.box) (fun hHeld=>?_)
    (try simp only [Act.put,List.setIfInBounds_toArray,List.set_cons_zero,List.set_cons_succ])
    clear hK K
    refine wpAnyH_ready (rs:=[3,5]) (by kernel_rfl) (by simp) ?_
    refine (AllReadyH.cons (o:=OP.p70) rfl (fun K hK=>?_) (AllReadyH.cons (o:=OP.p69) rfl (fun K hK=>?_) AllReadyH.nil))
    ·refine wanted_step (by kernel_rfl) ?_
     go_simp
     go_at_call 104
     refine (cK2 _ hB2).mono ?_
     rintro e' Y3 ⟨a2,c2,rfl,hk2,hY3⟩
     dsimp only
     have hB3:=hB2.trans (hY3.mono (hB2).size)
     have hd3:Below d Y2 Y3:=hY3.mono (Nat.le_trans (Nat.le_of_lt HF.out.wr.bx.lt) (hB2).size)
     have p4h:=(hY3.block _ p4s).trans p4h
     have p4s:=Nat.lt_of_lt_of_le p4s hY3.size
     refine hK.out _ _ ((hB3.block _ (Array.getElem?_eq_some_iff.1 HF.out.box).1).trans HF.out.box) (fun hHeld=>?_)
     (try simp only [Act.put,List.setIfInBounds_toArray,List.set_cons_zero,List.set_cons_succ])
     clear hK K
     refine wpAnyH_ready (rs:=[5]) (by kernel_rfl) (by simp) ?_
     refine (AllReadyH.cons (o:=OP.p69) rfl (fun K hK=>?_) AllReadyH.nil)
     ·refine wanted_step (by kernel_rfl) ?_
      go_simp
      obtain ⟨Y4,hYe4,p5h,hY4,p5s⟩:=J.new_block Y3 (.cells #[.string ⟨#[]⟩,.string ⟨#[]⟩,.int .i64 0,.int .i64 0,.slice none 0 0] 25)
      have hB4:=hB3.trans (hY4.mono (hB3).size)
      obtain ⟨p5,hp4⟩:∃ x,(Y3).heap.size=x:=⟨_,rfl⟩
      have p5l:w1.heap.size≤p5:=by rw [← hp4];exact (hB3).size
      have hd4:Below d Y3 Y4:=hY4.mono (Nat.le_trans (Nat.le_of_lt HF.out.wr.bx.lt) (hB3).size)
      have hlt4:p4<p5:=by rw [← hp4];exact p4s
      have p4h:=(hY4.block _ p4s).trans p4h
      have p4s:=Nat.lt_of_lt_of_le p4s hY4.size
      rw [hYe4]
      try rw [hp4]
      rw [hp4] at p5h p5s
      refine hK.out _ _ ((hB4.block _ (Array.getElem?_eq_some_iff.1 HF.out.box).1).trans HF.out.box) (fun hHeld=>?_)
      (try simp only [Act.put,List.setIfInBounds_toArray,List.set_cons_zero,List.set_cons_succ])
      clear hK K
      have hne:p4≠p5:=by omega
      have hk1e:=(((Below.refl d Y2).trans hd3).trans hd4)
      obtain ⟨Xf,Xg,hXf,hXg,hbf,hbg,g1,g2,hpair⟩:=pair_made (v0:=.string kb1) (v1:=.string tb1) (v2:=.int .i64 f1) (v3:=.int .i64 e1') (v4:=.slice a1 n1 c1) (u0:=.string kb2) (u1:=.string tb2) (u2:=.int .i64 f2) (u3:=.int .i64 e2') (u4:=.slice a2 n2 c2) HF.out hB4 p4h p5h p4l p5l hne hk1 hk2 (((Below.refl d Y2).trans hd3).trans hd4) ((Below.refl d Y3).trans hd4)
      refine wpAnyH_ready (rs:=[6]) (by kernel_rfl) (by simp) ?_
      refine (AllReadyH.cons (o:=OP.p71) rfl (fun K hK=>?_) AllReadyH.nil)
      refine wanted_step (by kernel_rfl) ?_
      obtain ⟨⟨z0,z1,z2,z3,z4⟩,zf⟩:=J.cells_five p4h
      go_simp
      try rw [hXf]
      clear z0 z1 z2 z3 z4 zf
      refine hK.out _ _ (hbf) (fun hHeld=>?_)
      (try simp only [Act.put,List.setIfInBounds_toArray,List.set_cons_zero,List.set_cons_succ])
      clear hK K
      refine wpAnyH_ready (rs:=[7]) (by kernel_rfl) (by simp) ?_
      refine (AllReadyH.cons (o:=OP.p72) rfl (fun K hK=>?_) AllReadyH.nil)
      refine wanted_step (by kernel_rfl) ?_
      obtain ⟨⟨z0,z1,z2,z3,z4⟩,zf⟩:=J.cells_five (show Xf.heap[p5]?=some (.cells #[.string ⟨#[]⟩,.string ⟨#[]⟩,.int .i64 0,.int .i64 0,.slice none 0 0] 25 (0,0)) from by rw [← hXf];rw [Below.heap_setCell _ _ _ _ (fun e=>hne e.symm),Below.heap_setCell _ _ _ _ (fun e=>hne e.symm),Below.heap_setCell _ _ _ _ (fun e=>hne e.symm),Below.heap_setCell _ _ _ _ (fun e=>hne e.symm),Below.heap_setCell _ _ _ _ (fun e=>hne e.symm)];exact p5h)
      go_simp
      try rw [hXg]
      clear z0 z1 z2 z3 z4 zf
      refine hK.out _ _ (hbg) (fun hHeld=>?_)
      (try simp only [Act.put,List.setIfInBounds_toArray,List.set_cons_zero,List.set_cons_succ])
      clear hK K
      refine wpAnyH_done (by kernel_rfl) ?_ _
      clear hHeld
      (try go_wp2_with fail)
      go_meet
      exact ⟨p4,p5,a1,c1,a2,c2,rfl,rfl,hid hpair⟩
    ·refine wanted_step (by kernel_rfl) ?_
     go_simp
     obtain ⟨Y3,hYe3,p5h,hY3,p5s⟩:=J.new_block Y2 (.cells #[.string ⟨#[]⟩,.string ⟨#[]⟩,.int .i64 0,.int .i64 0,.slice none 0 0] 25)
     have hB3:=hB2.trans (hY3.mono (hB2).size)
     obtain ⟨p5,hp3⟩:∃ x,(Y2).heap.size=x:=⟨_,rfl⟩
     have p5l:w1.heap.size≤p5:=by rw [← hp3];exact (hB2).size
     have hd3:Below d Y2 Y3:=hY3.mono (Nat.le_trans (Nat.le_of_lt HF.out.wr.bx.lt) (hB2).size)
     have hlt3:p4<p5:=by rw [← hp3];exact p4s
     have p4h:=(hY3.block _ p4s).trans p4h
     have p4s:=Nat.lt_of_lt_of_le p4s hY3.size
     rw [hYe3]
     try rw [hp3]
     rw [hp3] at p5h p5s
     refine hK.out _ _ ((hB3.block _ (Array.getElem?_eq_some_iff.1 HF.out.box).1).trans HF.out.box) (fun hHeld=>?_)
     (try simp only [Act.put,List.setIfInBounds_toArray,List.set_cons_zero,List.set_cons_succ])
     clear hK K
     refine wpAnyH_ready (rs:=[3]) (by kernel_rfl) (by simp) ?_
     refine (AllReadyH.cons (o:=OP.p70) rfl (fun K hK=>?_) AllReadyH.nil)
     ·refine wanted_step (by kernel_rfl) ?_
      go_simp
      go_at_call 104
      refine (cK2 _ hB3).mono ?_
      rintro e' Y4 ⟨a2,c2,rfl,hk2,hY4⟩
      dsimp only
      have hB4:=hB3.trans (hY4.mono (hB3).size)
      have hd4:Below d Y3 Y4:=hY4.mono (Nat.le_trans (Nat.le_of_lt HF.out.wr.bx.lt) (hB3).size)
      have p4h:=(hY4.block _ p4s).trans p4h
      have p4s:=Nat.lt_of_lt_of_le p4s hY4.size
      have p5h:=(hY4.block _ p5s).trans p5h
      have p5s:=Nat.lt_of_lt_of_le p5s hY4.size
      refine hK.out _ _ ((hB4.block _ (Array.getElem?_eq_some_iff.1 HF.out.box).1).trans HF.out.box) (fun hHeld=>?_)
      (try simp only [Act.put,List.setIfInBounds_toArray,List.set_cons_zero,List.set_cons_succ])
      clear hK K
      have hne:p4≠p5:=by omega
      have hk1e:=(((Below.refl d Y2).trans hd3).trans hd4)
      obtain ⟨Xf,Xg,hXf,hXg,hbf,hbg,g1,g2,hpair⟩:=pair_made (v0:=.string kb1) (v1:=.string tb1) (v2:=.int .i64 f1) (v3:=.int .i64 e1') (v4:=.slice a1 n1 c1) (u0:=.string kb2) (u1:=.string tb2) (u2:=.int .i64 f2) (u3:=.int .i64 e2') (u4:=.slice a2 n2 c2) HF.out hB4 p4h p5h p4l p5l hne hk1 hk2 (((Below.refl d Y2).trans hd3).trans hd4) (Below.refl d Y4)
      refine wpAnyH_ready (rs:=[6]) (by kernel_rfl) (by simp) ?_
      refine (AllReadyH.cons (o:=OP.p71) rfl (fun K hK=>?_) AllReadyH.nil)
      refine wanted_step (by kernel_rfl) ?_
      obtain ⟨⟨z0,z1,z2,z3,z4⟩,zf⟩:=J.cells_five p4h
      go_simp
      try rw [hXf]
      clear z0 z1 z2 z3 z4 zf
      refine hK.out _ _ (hbf) (fun hHeld=>?_)
      (try simp only [Act.put,List.setIfInBounds_toArray,List.set_cons_zero,List.set_cons_succ])
      clear hK K
      refine wpAnyH_ready (rs:=[7]) (by kernel_rfl) (by simp) ?_
      refine (AllReadyH.cons (o:=OP.p72) rfl (fun K hK=>?_) AllReadyH.nil)
      refine wanted_step (by kernel_rfl) ?_
      obtain ⟨⟨z0,z1,z2,z3,z4⟩,zf⟩:=J.cells_five (show Xf.heap[p5]?=some (.cells #[.string ⟨#[]⟩,.string ⟨#[]⟩,.int .i64 0,.int .i64 0,.slice none 0 0] 25 (0,0)) from by rw [← hXf];rw [Below.heap_setCell _ _ _ _ (fun e=>hne e.symm),Below.heap_setCell _ _ _ _ (fun e=>hne e.symm),Below.heap_setCell _ _ _ _ (fun e=>hne e.symm),Below.heap_setCell _ _ _ _ (fun e=>hne e.symm),Below.heap_setCell _ _ _ _ (fun e=>hne e.symm)];exact p5h)
      go_simp
      try rw [hXg]
      clear z0 z1 z2 z3 z4 zf
      refine hK.out _ _ (hbg) (fun hHeld=>?_)
      (try simp only [Act.put,List.setIfInBounds_toArray,List.set_cons_zero,List.set_cons_succ])
      clear hK K
      refine wpAnyH_done (by kernel_rfl) ?_ _
      clear hHeld
      (try go_wp2_with fail)
      go_meet
      exact ⟨p4,p5,a1,c1,a2,c2,rfl,rfl,hid hpair⟩
   ·refine wanted_step (by kernel_rfl) ?_
    go_simp
    obtain ⟨Y2,hYe2,p5h,hY2,p5s⟩:=J.new_block Y1 (.cells #[.string ⟨#[]⟩,.string ⟨#[]⟩,.int .i64 0,.int .i64 0,.slice none 0 0] 25)
    have hB2:=hB1.trans (hY2.mono (hB1).size)
    obtain ⟨p5,hp2⟩:∃ x,(Y1).heap.size=x:=⟨_,rfl⟩
    have p5l:w1.heap.size≤p5:=by rw [← hp2];exact (hB1).size
    have hd2:Below d Y1 Y2:=hY2.mono (Nat.le_trans (Nat.le_of_lt HF.out.wr.bx.lt) (hB1).size)
    have hlt2:p4<p5:=by rw [← hp2];exact p4s
    have p4h:=(hY2.block _ p4s).trans p4h
    have p4s:=Nat.lt_of_lt_of_le p4s hY2.size
    rw [hYe2]
    try rw [hp2]
    rw [hp2] at p5h p5s
    refine hK.out _ _ ((hB2.block _ (Array.getElem?_eq_some_iff.1 HF.out.box).1).trans HF.out.box) (fun hHeld=>?_)
    (try simp only [Act.put,List.setIfInBounds_toArray,List.set_cons_zero,List.set_cons_succ])
    clear hK K
    refine wpAnyH_ready (rs:=[1]) (by kernel_rfl) (by simp) ?_
    refine (AllReadyH.cons (o:=OP.p67) rfl (fun K hK=>?_) AllReadyH.nil)
    ·refine wanted_step (by kernel_rfl) ?_
     go_simp
     go_at_call 104
     refine (cK1 _ hB2).mono ?_
     rintro e' Y3 ⟨a1,c1,rfl,hk1,hY3⟩
     dsimp only
     have hB3:=hB2.trans (hY3.mono (hB2).size)
     have hd3:Below d Y2 Y3:=hY3.mono (Nat.le_trans (Nat.le_of_lt HF.out.wr.bx.lt) (hB2).size)
     have p4h:=(hY3.block _ p4s).trans p4h
     have p4s:=Nat.lt_of_lt_of_le p4s hY3.size
     have p5h:=(hY3.block _ p5s).trans p5h
     have p5s:=Nat.lt_of_lt_of_le p5s hY3.size
     refine hK.out _ _ ((hB3.block _ (Array.getElem?_eq_some_iff.1 HF.out.box).1).trans HF.out.box) (fun hHeld=>?_)
     (try simp only [Act.put,List.setIfInBounds_toArray,List.set_cons_zero,List.set_cons_succ])
     clear hK K
     refine wpAnyH_ready (rs:=[3]) (by kernel_rfl) (by simp) ?_
     refine (AllReadyH.cons (o:=OP.p70) rfl (fun K hK=>?_) AllReadyH.nil)
     ·refine wanted_step (by kernel_rfl) ?_
      go_simp
      go_at_call 104
      refine (cK2 _ hB3).mono ?_
      rintro e' Y4 ⟨a2,c2,rfl,hk2,hY4⟩
      dsimp only
      have hB4:=hB3.trans (hY4.mono (hB3).size)
      have hd4:Below d Y3 Y4:=hY4.mono (Nat.le_trans (Nat.le_of_lt HF.out.wr.bx.lt) (hB3).size)
      have p4h:=(hY4.block _ p4s).trans p4h
      have p4s:=Nat.lt_of_lt_of_le p4s hY4.size
      have p5h:=(hY4.block _ p5s).trans p5h
      have p5s:=Nat.lt_of_lt_of_le p5s hY4.size
      refine hK.out _ _ ((hB4.block _ (Array.getElem?_eq_some_iff.1 HF.out.box).1).trans HF.out.box) (fun hHeld=>?_)
      (try simp only [Act.put,List.setIfInBounds_toArray,List.set_cons_zero,List.set_cons_succ])
      clear hK K
      have hne:p4≠p5:=by omega
      have hk1e:=((Below.refl d Y3).trans hd4)
      obtain ⟨Xf,Xg,hXf,hXg,hbf,hbg,g1,g2,hpair⟩:=pair_made (v0:=.string kb1) (v1:=.string tb1) (v2:=.int .i64 f1) (v3:=.int .i64 e1') (v4:=.slice a1 n1 c1) (u0:=.string kb2) (u1:=.string tb2) (u2:=.int .i64 f2) (u3:=.int .i64 e2') (u4:=.slice a2 n2 c2) HF.out hB4 p4h p5h p4l p5l hne hk1 hk2 ((Below.refl d Y3).trans hd4) (Below.refl d Y4)
      refine wpAnyH_ready (rs:=[6]) (by kernel_rfl) (by simp) ?_
      refine (AllReadyH.cons (o:=OP.p71) rfl (fun K hK=>?_) AllReadyH.nil)
      refine wanted_step (by kernel_rfl) ?_
      obtain ⟨⟨z0,z1,z2,z3,z4⟩,zf⟩:=J.cells_five p4h
      go_simp
      try rw [hXf]
      clear z0 z1 z2 z3 z4 zf
      refine hK.out _ _ (hbf) (fun hHeld=>?_)
      (try simp only [Act.put,List.setIfInBounds_toArray,List.set_cons_zero,List.set_cons_succ])
      clear hK K
      refine wpAnyH_ready (rs:=[7]) (by kernel_rfl) (by simp) ?_
      refine (AllReadyH.cons (o:=OP.p72) rfl (fun K hK=>?_) AllReadyH.nil)
      refine wanted_step (by kernel_rfl) ?_
      obtain ⟨⟨z0,z1,z2,z3,z4⟩,zf⟩:=J.cells_five (show Xf.heap[p5]?=some (.cells #[.string ⟨#[]⟩,.string ⟨#[]⟩,.int .i64 0,.int .i64 0,.slice none 0 0] 25 (0,0)) from by rw [← hXf];rw [Below.heap_setCell _ _ _ _ (fun e=>hne e.symm),Below.heap_setCell _ _ _ _ (fun e=>hne e.symm),Below.heap_setCell _ _ _ _ (fun e=>hne e.symm),Below.heap_setCell _ _ _ _ (fun e=>hne e.symm),Below.heap_setCell _ _ _ _ (fun e=>hne e.symm)];exact p5h)
      go_simp
      try rw [hXg]
      clear z0 z1 z2 z3 z4 zf
      refine hK.out _ _ (hbg) (fun hHeld=>?_)
      (try simp only [Act.put,List.setIfInBounds_toArray,List.set_cons_zero,List.set_cons_succ])
      clear hK K
      refine wpAnyH_done (by kernel_rfl) ?_ _
      clear hHeld
      (try go_wp2_with fail)
      go_meet
      exact ⟨p4,p5,a1,c1,a2,c2,rfl,rfl,hid hpair⟩
  ·refine wanted_step (by kernel_rfl) ?_
   go_simp
   obtain ⟨Y1,hYe1,p5h,hY1,p5s⟩:=J.new_block v0 (.cells #[.string ⟨#[]⟩,.string ⟨#[]⟩,.int .i64 0,.int .i64 0,.slice none 0 0] 25)
   have hB1:=hB0.trans (hY1.mono (hB0).size)
   obtain ⟨p5,hp1⟩:∃ x,(v0).heap.size=x:=⟨_,rfl⟩
   have p5l:w1.heap.size≤p5:=by rw [← hp1];exact (hB0).size
   have hd1:Below d v0 Y1:=hY1.mono (Nat.le_trans (Nat.le_of_lt HF.out.wr.bx.lt) (hB0).size)
   rw [hYe1]
   try rw [hp1]
   rw [hp1] at p5h p5s
   refine hK.out _ _ ((hB1.block _ (Array.getElem?_eq_some_iff.1 HF.out.box).1).trans HF.out.box) (fun hHeld=>?_)
   (try simp only [Act.put,List.setIfInBounds_toArray,List.set_cons_zero,List.set_cons_succ])
   clear hK K
   refine wpAnyH_ready (rs:=[1,4]) (by kernel_rfl) (by simp) ?_
   refine (AllReadyH.cons (o:=OP.p67) rfl (fun K hK=>?_) (AllReadyH.cons (o:=OP.p68) rfl (fun K hK=>?_) AllReadyH.nil))
   ·refine wanted_step (by kernel_rfl) ?_
    go_simp
    go_at_call 104
    refine (cK1 _ hB1).mono ?_
    rintro e' Y2 ⟨a1,c1,rfl,hk1,hY2⟩
    dsimp only
    have hB2:=hB1.trans (hY2.mono (hB1).size)
    have hd2:Below d Y1 Y2:=hY2.mono (Nat.le_trans (Nat.le_of_lt HF.out.wr.bx.lt) (hB1).size)
    have p5h:=(hY2.block _ p5s).trans p5h
    have p5s:=Nat.lt_of_lt_of_le p5s hY2.size
    refine hK.out _ _ ((hB2.block _ (Array.getElem?_eq_some_iff.1 HF.out.box).1).trans HF.out.box) (fun hHeld=>?_)
    (try simp only [Act.put,List.setIfInBounds_toArray,List.set_cons_zero,List.set_cons_succ])
    clear hK K
    refine wpAnyH_ready (rs:=[3,4]) (by kernel_rfl) (by simp) ?_
    refine (AllReadyH.cons (o:=OP.p70) rfl (fun K hK=>?_) (AllReadyH.cons (o:=OP.p68) rfl (fun K hK=>?_) AllReadyH.nil))
    ·refine wanted_step (by kernel_rfl) ?_
     go_simp
     go_at_call 104
     refine (cK2 _ hB2).mono ?_
     rintro e' Y3 ⟨a2,c2,rfl,hk2,hY3⟩
     dsimp only
     have hB3:=hB2.trans (hY3.mono (hB2).size)
     have hd3:Below d Y2 Y3:=hY3.mono (Nat.le_trans (Nat.le_of_lt HF.out.wr.bx.lt) (hB2).size)
     have p5h:=(hY3.block _ p5s).trans p5h
     have p5s:=Nat.lt_of_lt_of_le p5s hY3.size
     refine hK.out _ _ ((hB3.block _ (Array.getElem?_eq_some_iff.1 HF.out.box).1).trans HF.out.box) (fun hHeld=>?_)
     (try simp only [Act.put,List.setIfInBounds_toArray,List.set_cons_zero,List.set_cons_succ])
     clear hK K
     refine wpAnyH_ready (rs:=[4]) (by kernel_rfl) (by simp) ?_
     refine (AllReadyH.cons (o:=OP.p68) rfl (fun K hK=>?_) AllReadyH.nil)
     ·refine wanted_step (by kernel_rfl) ?_
      go_simp
      obtain ⟨Y4,hYe4,p4h,hY4,p4s⟩:=J.new_block Y3 (.cells #[.string ⟨#[]⟩,.string ⟨#[]⟩,.int .i64 0,.int .i64 0,.slice none 0 0] 25)
      have hB4:=hB3.trans (hY4.mono (hB3).size)
      obtain ⟨p4,hp4⟩:∃ x,(Y3).heap.size=x:=⟨_,rfl⟩
      have p4l:w1.heap.size≤p4:=by rw [← hp4];exact (hB3).size
      have hd4:Below d Y3 Y4:=hY4.mono (Nat.le_trans (Nat.le_of_lt HF.out.wr.bx.lt) (hB3).size)
      have hlt4:p5<p4:=by rw [← hp4];exact p5s
      have p5h:=(hY4.block _ p5s).trans p5h
      have p5s:=Nat.lt_of_lt_of_le p5s hY4.size
      rw [hYe4]
      try rw [hp4]
      rw [hp4] at p4h p4s
      refine hK.out _ _ ((hB4.block _ (Array.getElem?_eq_some_iff.1 HF.out.box).1).trans HF.out.box) (fun hHeld=>?_)
      (try simp only [Act.put,List.setIfInBounds_toArray,List.set_cons_zero,List.set_cons_succ])
      clear hK K
      have hne:p4≠p5:=by omega
      have hk1e:=(((Below.refl d Y2).trans hd3).trans hd4)
      obtain ⟨Xf,Xg,hXf,hXg,hbf,hbg,g1,g2,hpair⟩:=pair_made (v0:=.string kb1) (v1:=.string tb1) (v2:=.int .i64 f1) (v3:=.int .i64 e1') (v4:=.slice a1 n1 c1) (u0:=.string kb2) (u1:=.string tb2) (u2:=.int .i64 f2) (u3:=.int .i64 e2') (u4:=.slice a2 n2 c2) HF.out hB4 p4h p5h p4l p5l hne hk1 hk2 (((Below.refl d Y2).trans hd3).trans hd4) ((Below.refl d Y3).trans hd4)
      refine wpAnyH_ready (rs:=[6]) (by kernel_rfl) (by simp) ?_
      refine (AllReadyH.cons (o:=OP.p71) rfl (fun K hK=>?_) AllReadyH.nil)
      refine wanted_step (by kernel_rfl) ?_
      obtain ⟨⟨z0,z1,z2,z3,z4⟩,zf⟩:=J.cells_five p4h
      go_simp
      try rw [hXf]
      clear z0 z1 z2 z3 z4 zf
      refine hK.out _ _ (hbf) (fun hHeld=>?_)
      (try simp only [Act.put,List.setIfInBounds_toArray,List.set_cons_zero,List.set_cons_succ])
      clear hK K
      refine wpAnyH_ready (rs:=[7]) (by kernel_rfl) (by simp) ?_
      refine (AllReadyH.cons (o:=OP.p72) rfl (fun K hK=>?_) AllReadyH.nil)
      refine wanted_step (by kernel_rfl) ?_
      obtain ⟨⟨z0,z1,z2,z3,z4⟩,zf⟩:=J.cells_five (show Xf.heap[p5]?=some (.cells #[.string ⟨#[]⟩,.string ⟨#[]⟩,.int .i64 0,.int .i64 0,.slice none 0 0] 25 (0,0)) from by rw [← hXf];rw [Below.heap_setCell _ _ _ _ (fun e=>hne e.symm),Below.heap_setCell _ _ _ _ (fun e=>hne e.symm),Below.heap_setCell _ _ _ _ (fun e=>hne e.symm),Below.heap_setCell _ _ _ _ (fun e=>hne e.symm),Below.heap_setCell _ _ _ _ (fun e=>hne e.symm)];exact p5h)
      go_simp
      try rw [hXg]
      clear z0 z1 z2 z3 z4 zf
      refine hK.out _ _ (hbg) (fun hHeld=>?_)
      (try simp only [Act.put,List.setIfInBounds_toArray,List.set_cons_zero,List.set_cons_succ])
      clear hK K
      refine wpAnyH_done (by kernel_rfl) ?_ _
      clear hHeld
      (try go_wp2_with fail)
      go_meet
      exact ⟨p4,p5,a1,c1,a2,c2,rfl,rfl,hid hpair⟩
    ·refine wanted_step (by kernel_rfl) ?_
     go_simp
     obtain ⟨Y3,hYe3,p4h,hY3,p4s⟩:=J.new_block Y2 (.cells #[.string ⟨#[]⟩,.string ⟨#[]⟩,.int .i64 0,.int .i64 0,.slice none 0 0] 25)
     have hB3:=hB2.trans (hY3.mono (hB2).size)
     obtain ⟨p4,hp3⟩:∃ x,(Y2).heap.size=x:=⟨_,rfl⟩
     have p4l:w1.heap.size≤p4:=by rw [← hp3];exact (hB2).size
     have hd3:Below d Y2 Y3:=hY3.mono (Nat.le_trans (Nat.le_of_lt HF.out.wr.bx.lt) (hB2).size)
     have hlt3:p5<p4:=by rw [← hp3];exact p5s
     have p5h:=(hY3.block _ p5s).trans p5h
     have p5s:=Nat.lt_of_lt_of_le p5s hY3.size
     rw [hYe3]
     try rw [hp3]
     rw [hp3] at p4h p4s
     refine hK.out _ _ ((hB3.block _ (Array.getElem?_eq_some_iff.1 HF.out.box).1).trans HF.out.box) (fun hHeld=>?_)
     (try simp only [Act.put,List.setIfInBounds_toArray,List.set_cons_zero,List.set_cons_succ])
     clear hK K
     refine wpAnyH_ready (rs:=[3]) (by kernel_rfl) (by simp) ?_
     refine (AllReadyH.cons (o:=OP.p70) rfl (fun K hK=>?_) AllReadyH.nil)
     ·refine wanted_step (by kernel_rfl) ?_
      go_simp
      go_at_call 104
      refine (cK2 _ hB3).mono ?_
      rintro e' Y4 ⟨a2,c2,rfl,hk2,hY4⟩
      dsimp only
      have hB4:=hB3.trans (hY4.mono (hB3).size)
      have hd4:Below d Y3 Y4:=hY4.mono (Nat.le_trans (Nat.le_of_lt HF.out.wr.bx.lt) (hB3).size)
      have p4h:=(hY4.block _ p4s).trans p4h
      have p4s:=Nat.lt_of_lt_of_le p4s hY4.size
      have p5h:=(hY4.block _ p5s).trans p5h
      have p5s:=Nat.lt_of_lt_of_le p5s hY4.size
      refine hK.out _ _ ((hB4.block _ (Array.getElem?_eq_some_iff.1 HF.out.box).1).trans HF.out.box) (fun hHeld=>?_)
      (try simp only [Act.put,List.setIfInBounds_toArray,List.set_cons_zero,List.set_cons_succ])
      clear hK K
      have hne:p4≠p5:=by omega
      have hk1e:=(((Below.refl d Y2).trans hd3).trans hd4)
      obtain ⟨Xf,Xg,hXf,hXg,hbf,hbg,g1,g2,hpair⟩:=pair_made (v0:=.string kb1) (v1:=.string tb1) (v2:=.int .i64 f1) (v3:=.int .i64 e1') (v4:=.slice a1 n1 c1) (u0:=.string kb2) (u1:=.string tb2) (u2:=.int .i64 f2) (u3:=.int .i64 e2') (u4:=.slice a2 n2 c2) HF.out hB4 p4h p5h p4l p5l hne hk1 hk2 (((Below.refl d Y2).trans hd3).trans hd4) (Below.refl d Y4)
      refine wpAnyH_ready (rs:=[6]) (by kernel_rfl) (by simp) ?_
      refine (AllReadyH.cons (o:=OP.p71) rfl (fun K hK=>?_) AllReadyH.nil)
      refine wanted_step (by kernel_rfl) ?_
      obtain ⟨⟨z0,z1,z2,z3,z4⟩,zf⟩:=J.cells_five p4h
      go_simp
      try rw [hXf]
      clear z0 z1 z2 z3 z4 zf
      refine hK.out _ _ (hbf) (fun hHeld=>?_)
      (try simp only [Act.put,List.setIfInBounds_toArray,List.set_cons_zero,List.set_cons_succ])
      clear hK K
      refine wpAnyH_ready (rs:=[7]) (by kernel_rfl) (by simp) ?_
      refine (AllReadyH.cons (o:=OP.p72) rfl (fun K hK=>?_) AllReadyH.nil)
      refine wanted_step (by kernel_rfl) ?_
      obtain ⟨⟨z0,z1,z2,z3,z4⟩,zf⟩:=J.cells_five (show Xf.heap[p5]?=some (.cells #[.string ⟨#[]⟩,.string ⟨#[]⟩,.int .i64 0,.int .i64 0,.slice none 0 0] 25 (0,0)) from by rw [← hXf];rw [Below.heap_setCell _ _ _ _ (fun e=>hne e.symm),Below.heap_setCell _ _ _ _ (fun e=>hne e.symm),Below.heap_setCell _ _ _ _ (fun e=>hne e.symm),Below.heap_setCell _ _ _ _ (fun e=>hne e.symm),Below.heap_setCell _ _ _ _ (fun e=>hne e.symm)];exact p5h)
      go_simp
      try rw [hXg]
      clear z0 z1 z2 z3 z4 zf
      refine hK.out _ _ (hbg) (fun hHeld=>?_)
      (try simp only [Act.put,List.setIfInBounds_toArray,List.set_cons_zero,List.set_cons_succ])
      clear hK K
      refine wpAnyH_done (by kernel_rfl) ?_ _
      clear hHeld
      (try go_wp2_with fail)
      go_meet
      exact ⟨p4,p5,a1,c1,a2,c2,rfl,rfl,hid hpair⟩
   ·refine wanted_step (by kernel_rfl) ?_
    go_simp
    obtain ⟨Y2,hYe2,p4h,hY2,p4s⟩:=J.new_block Y1 (.cells #[.string ⟨#[]⟩,.string ⟨#[]⟩,.int .i64 0,.int .i64 0,.slice none 0 0] 25)
    have hB2:=hB1.trans (hY2.mono (hB1).size)
    obtain ⟨p4,hp2⟩:∃ x,(Y1).heap.size=x:=⟨_,rfl⟩
    have p4l:w1.heap.size≤p4:=by rw [← hp2];exact (hB1).size
    have hd2:Below d Y1 Y2:=hY2.mono (Nat.le_trans (Nat.le_of_lt HF.out.wr.bx.lt) (hB1).size)
    have hlt2:p5<p4:=by rw [← hp2];exact p5s
    have p5h:=(hY2.block _ p5s).trans p5h
    have p5s:=Nat.lt_of_lt_of_le p5s hY2.size
    rw [hYe2]
    try rw [hp2]
    rw [hp2] at p4h p4s
    refine hK.out _ _ ((hB2.block _ (Array.getElem?_eq_some_iff.1 HF.out.box).1).trans HF.out.box) (fun hHeld=>?_)
    (try simp only [Act.put,List.setIfInBounds_toArray,List.set_cons_zero,List.set_cons_succ])
    clear hK K
    refine wpAnyH_ready (rs:=[1]) (by kernel_rfl) (by simp) ?_
    refine (AllReadyH.cons (o:=OP.p67) rfl (fun K hK=>?_) AllReadyH.nil)
    ·refine wanted_step (by kernel_rfl) ?_
     go_simp
     go_at_call 104
     refine (cK1 _ hB2).mono ?_
     rintro e' Y3 ⟨a1,c1,rfl,hk1,hY3⟩
     dsimp only
     have hB3:=hB2.trans (hY3.mono (hB2).size)
     have hd3:Below d Y2 Y3:=hY3.mono (Nat.le_trans (Nat.le_of_lt HF.out.wr.bx.lt) (hB2).size)
     have p4h:=(hY3.block _ p4s).trans p4h
     have p4s:=Nat.lt_of_lt_of_le p4s hY3.size
     have p5h:=(hY3.block _ p5s).trans p5h
     have p5s:=Nat.lt_of_lt_of_le p5s hY3.size
     refine hK.out _ _ ((hB3.block _ (Array.getElem?_eq_some_iff.1 HF.out.box).1).trans HF.out.box) (fun hHeld=>?_)
     (try simp only [Act.put,List.setIfInBounds_toArray,List.set_cons_zero,List.set_cons_succ])
     clear hK K
     refine wpAnyH_ready (rs:=[3]) (by kernel_rfl) (by simp) ?_
     refine (AllReadyH.cons (o:=OP.p70) rfl (fun K hK=>?_) AllReadyH.nil)
     ·refine wanted_step (by kernel_rfl) ?_
      go_simp
      go_at_call 104
      refine (cK2 _ hB3).mono ?_
      rintro e' Y4 ⟨a2,c2,rfl,hk2,hY4⟩
      dsimp only
      have hB4:=hB3.trans (hY4.mono (hB3).size)
      have hd4:Below d Y3 Y4:=hY4.mono (Nat.le_trans (Nat.le_of_lt HF.out.wr.bx.lt) (hB3).size)
      have p4h:=(hY4.block _ p4s).trans p4h
      have p4s:=Nat.lt_of_lt_of_le p4s hY4.size
      have p5h:=(hY4.block _ p5s).trans p5h
      have p5s:=Nat.lt_of_lt_of_le p5s hY4.size
      refine hK.out _ _ ((hB4.block _ (Array.getElem?_eq_some_iff.1 HF.out.box).1).trans HF.out.box) (fun hHeld=>?_)
      (try simp only [Act.put,List.setIfInBounds_toArray,List.set_cons_zero,List.set_cons_succ])
      clear hK K
      have hne:p4≠p5:=by omega
      have hk1e:=((Below.refl d Y3).trans hd4)
      obtain ⟨Xf,Xg,hXf,hXg,hbf,hbg,g1,g2,hpair⟩:=pair_made (v0:=.string kb1) (v1:=.string tb1) (v2:=.int .i64 f1) (v3:=.int .i64 e1') (v4:=.slice a1 n1 c1) (u0:=.string kb2) (u1:=.string tb2) (u2:=.int .i64 f2) (u3:=.int .i64 e2') (u4:=.slice a2 n2 c2) HF.out hB4 p4h p5h p4l p5l hne hk1 hk2 ((Below.refl d Y3).trans hd4) (Below.refl d Y4)
      refine wpAnyH_ready (rs:=[6]) (by kernel_rfl) (by simp) ?_
      refine (AllReadyH.cons (o:=OP.p71) rfl (fun K hK=>?_) AllReadyH.nil)
      refine wanted_step (by kernel_rfl) ?_
      obtain ⟨⟨z0,z1,z2,z3,z4⟩,zf⟩:=J.cells_five p4h
      go_simp
      try rw [hXf]
      clear z0 z1 z2 z3 z4 zf
      refine hK.out _ _ (hbf) (fun hHeld=>?_)
      (try simp only [Act.put,List.setIfInBounds_toArray,List.set_cons_zero,List.set_cons_succ])
      clear hK K
      refine wpAnyH_ready (rs:=[7]) (by kernel_rfl) (by simp) ?_
      refine (AllReadyH.cons (o:=OP.p72) rfl (fun K hK=>?_) AllReadyH.nil)
      refine wanted_step (by kernel_rfl) ?_
      obtain ⟨⟨z0,z1,z2,z3,z4⟩,zf⟩:=J.cells_five (show Xf.heap[p5]?=some (.cells #[.string ⟨#[]⟩,.string ⟨#[]⟩,.int .i64 0,.int .i64 0,.slice none 0 0] 25 (0,0)) from by rw [← hXf];rw [Below.heap_setCell _ _ _ _ (fun e=>hne e.symm),Below.heap_setCell _ _ _ _ (fun e=>hne e.symm),Below.heap_setCell _ _ _ _ (fun e=>hne e.symm),Below.heap_setCell _ _ _ _ (fun e=>hne e.symm),Below.heap_setCell _ _ _ _ (fun e=>hne e.symm)];exact p5h)
      go_simp
      try rw [hXg]
      clear z0 z1 z2 z3 z4 zf
      refine hK.out _ _ (hbg) (fun hHeld=>?_)
      (try simp only [Act.put,List.setIfInBounds_toArray,List.set_cons_zero,List.set_cons_succ])
      clear hK K
      refine wpAnyH_done (by kernel_rfl) ?_ _
      clear hHeld
      (try go_wp2_with fail)
      go_meet
      exact ⟨p4,p5,a1,c1,a2,c2,rfl,rfl,hid hpair⟩
 case rest =>
  obtain ⟨b1,b2,a1,c1,a2,c2,rfl,rfl,HP⟩:=hcut
  generalize wc=w5 at HP ⊢
  clear cK1 cK2 HF
  obtain ⟨y1,hy1⟩:∃ y,decide (k1=kBinary)=y:=⟨_,rfl⟩
  obtain ⟨y2,hy2⟩:∃ y,decide (((strB t1:Nat):Int)<((strB t:Nat):Int))=y:=⟨_,rfl⟩
  have hu:lHeld t (.mk k1 t1 f1 e1' ks1)=(y1&&y2):=by
   have e3:decide (strB t1<strB t)=y2:=by rw [← hy2];simp
   rw [← hy1,← e3];rfl
  have HU:=hid hu
  have e1:(kb1.toList==(⟨#[98,105,110,97,114,121]⟩:ByteArray).toList)=y1:=by rw [← hy1,show (⟨#[98,105,110,97,114,121]⟩:ByteArray).toList=kBinary from by rw [ByteArray.toList_eq];rfl,← HKB1.out];exact tb_eq k1 kBinary
  have e2:decide (((strB t1:Nat):Int)<sp)=y2:=by rw [HSP.out] at hy2;exact hy2
  have cS:∀ X,Below w5.heap.size w5 X→Calls Tryz.prog 111 #[.string tb1] X fun e' w'=>e'=.returned (.int .i64 (strB t1))∧Below w5.heap.size w5 w':=fun X hX=>(strength_any t1 tb1 HTB1.out X).mono fun _ w' ⟨h1,h2⟩=>⟨h1,by rw [h2];exact hX⟩
  have cH:∀ X,Below w5.heap.size w5 X→Calls Tryz.prog 109 #[.pointer (some ⟨d,0,none⟩),.agg #[.string kb1,.string tb1,.int .i64 f1,.int .i64 e1',.slice a1 n1 c1],.bool (y1&&y2)] X fun e' w'=>e'=.returned (.tuple #[])∧Hid (Pair d m ind (bs++x1) (.mk k t f e ks) (.slice a n c) #[.string kb,.string tb,.int .i64 f,.int .i64 e,.slice a n c] b W (.mk k1 t1 f1 e1' ks1) (.mk k2 t2 f2 e2' ks2) (.slice a1 n1 c1) (.slice a2 n2 c2) #[.string kb1,.string tb1,.int .i64 f1,.int .i64 e1',.slice a1 n1 c1] #[.string kb2,.string tb2,.int .i64 f2,.int .i64 e2',.slice a2 n2 c2] b1 b2 w')∧w'.heap[b1]?=some (.cells #[.string kb1,.string tb1,.int .i64 f1,.int .i64 e1',.slice a1 n1 c1] 25 (0,0)):=fun X hX=>by
   have hk:=(Kp.refl d w5).later hX (Nat.le_of_lt HP.out.fr.wr.bx.lt)
   have hpx:=HP.out.step (HP.out.fr.wr.later hX) hk
   have:=held_any (p:=.mk k1 t1 f1 e1' ks1) (cs:=#[.string kb1,.string tb1,.int .i64 f1,.int .i64 e1',.slice a1 n1 c1]) (lHeld t (.mk k1 t1 f1 e1' ks1)) HPC1.out (by rw [← HKB1.out,← HTB1.out,← HN1.out];rfl) hpx.fr.wr hpx.k1 hwt1 hdp1 (by rw [HX1.out];have:=HL.out;(try simp only [List.length_append,List.length_cons,List.length_nil]);omega)
   rw [HX1.out,HU.out] at this
   exact this.mono fun _ w' ⟨h1,h2,h3⟩=>⟨h1,hid (hpx.step h2 h3),(hpx.step h2 h3).h1⟩
  clear hy1 hy2 hu
  go_upto_region 3 with fail
  go_cut [] (fun wx=>Hid (Pair d m ind (bs++x1) (.mk k t f e ks) (.slice a n c) #[.string kb,.string tb,.int .i64 f,.int .i64 e,.slice a n c] b W (.mk k1 t1 f1 e1' ks1) (.mk k2 t2 f2 e2' ks2) (.slice a1 n1 c1) (.slice a2 n2 c2) #[.string kb1,.string tb1,.int .i64 f1,.int .i64 e1',.slice a1 n1 c1] #[.string kb2,.string tb2,.int .i64 f2,.int .i64 e2',.slice a2 n2 c2] b1 b2 wx))
  case first =>
   cases y1 with
   | true =>
    cases y2 with
    | true =>
     refine wp_region_held_drew (S:=fun X:World=>X.heap[b1]?=some (.cells #[.string kb1,.string tb1,.int .i64 f1,.int .i64 e1',.slice a1 n1 c1] 25 (0,0))) (by kernel_rfl) HP.out.h1 (fun hHeld=>?_)
     have hB0:Below w5.heap.size w5 w5.drew:=(Below.refl _ _).drew
     refine wpAnyH_take (i:=0) (oi:=OP.p73) (v:=(.pointer (some ⟨d,0,none⟩))) rfl (by kernel_rfl) (by kernel_rfl) (by kernel_rfl) (fun _ _ _ h=>h) (Or.inl ⟨by rfl,fun X hX=>rfl⟩) hHeld ?_
     (try simp only [Act.put,List.setIfInBounds_toArray,List.set_cons_zero,List.set_cons_succ])
     refine wpAnyH_take (i:=1) (oi:=OP.p74) (v:=(.agg #[.string kb1,.string tb1,.int .i64 f1,.int .i64 e1',.slice a1 n1 c1])) rfl (by kernel_rfl) (by kernel_rfl) (by kernel_rfl) (fun _ _ _ h=>h) (yields_load 25 (.tmp 5) rfl (by rfl) (fun X hX=>load_five hX)) hHeld ?_
     (try simp only [Act.put,List.setIfInBounds_toArray,List.set_cons_zero,List.set_cons_succ])
     refine wpAnyH_take (i:=2) (oi:=OP.p75) (v:=(.pointer (some ⟨b1,0,none⟩))) rfl (by kernel_rfl) (by kernel_rfl) (by kernel_rfl) (fun _ _ _ h=>h) (Or.inl ⟨by rfl,fun X hX=>rfl⟩) hHeld ?_
     (try simp only [Act.put,List.setIfInBounds_toArray,List.set_cons_zero,List.set_cons_succ])
     refine wpAnyH_take (i:=3) (oi:=OP.p76) (v:=(.string kb1)) rfl (by kernel_rfl) (by kernel_rfl) (by kernel_rfl) (fun _ _ _ h=>h) (yields_load 9 (.tmp 16) rfl (by rfl) (fun X hX=>load_str (J.cells_five hX).1.1)) hHeld ?_
     (try simp only [Act.put,List.setIfInBounds_toArray,List.set_cons_zero,List.set_cons_succ])
     refine wpAnyH_take (i:=4) (oi:=OP.p77) (v:=.bool true) rfl (by kernel_rfl) (by kernel_rfl) (by kernel_rfl) (fun _ _ _ h=>h) (yields_eql (Operand.tmp 17) (Operand.const (Value.string { data:=#[98,105,110,97,114,121] })) rfl (by rfl) rfl rfl e1) hHeld ?_
     (try simp only [Act.put,List.setIfInBounds_toArray,List.set_cons_zero,List.set_cons_succ])
     refine wpAnyH_take (i:=5) (oi:=OP.p78) (v:=(.bool true)) rfl (by kernel_rfl) (by kernel_rfl) (by kernel_rfl) (fun _ _ _ h=>h) (Or.inl ⟨by rfl,fun X hX=>rfl⟩) hHeld ?_
     (try simp only [Act.put,List.setIfInBounds_toArray,List.set_cons_zero,List.set_cons_succ])
     refine wpAnyH_take (i:=6) (oi:=OP.p79) (v:=(.pointer (some ⟨b1,1,none⟩))) rfl (by kernel_rfl) (by kernel_rfl) (by kernel_rfl) (fun _ _ _ h=>h) (Or.inl ⟨by rfl,fun X hX=>rfl⟩) hHeld ?_
     (try simp only [Act.put,List.setIfInBounds_toArray,List.set_cons_zero,List.set_cons_succ])
     refine wpAnyH_take (i:=7) (oi:=OP.p80) (v:=(.string tb1)) rfl (by kernel_rfl) (by kernel_rfl) (by kernel_rfl) (fun _ _ _ h=>h) (yields_load 9 (.tmp 20) rfl (by rfl) (fun X hX=>load_at (J.cells_five hX).1.2.1)) hHeld ?_
     (try simp only [Act.put,List.setIfInBounds_toArray,List.set_cons_zero,List.set_cons_succ])
     refine wpAnyH_take (i:=9) (oi:=OP.p81) (v:=(.int .i64 sp)) rfl (by kernel_rfl) (by kernel_rfl) (by kernel_rfl) (fun _ _ _ h=>h) (Or.inl ⟨by rfl,fun X hX=>rfl⟩) hHeld ?_
     (try simp only [Act.put,List.setIfInBounds_toArray,List.set_cons_zero,List.set_cons_succ])
     refine wpAnyH_ready (rs:=[8]) (by kernel_rfl) (by simp) ?_
     refine (AllReadyH.cons (o:=OP.p82) rfl (fun K hK=>?_) AllReadyH.nil)
     refine wanted_step (by kernel_rfl) ?_
     go_simp
     go_at_call 111
     refine (cS _ hB0).mono ?_
     rintro e' w6 ⟨rfl,hB6⟩
     dsimp only
     refine hK.out _ _ ((hB6.block _ (Array.getElem?_eq_some_iff.1 HP.out.h1).1).trans HP.out.h1) (fun hHeld=>?_)
     (try simp only [Act.put,List.setIfInBounds_toArray,List.set_cons_zero,List.set_cons_succ])
     clear hK K
     refine wpAnyH_take (i:=10) (oi:=OP.p83) (v:=.bool true) rfl (by kernel_rfl) (by kernel_rfl) (by kernel_rfl) (fun _ _ _ h=>h) (yields_lss (Operand.tmp 22) (Operand.tmp 23) rfl (by rfl) rfl rfl e2) hHeld ?_
     (try simp only [Act.put,List.setIfInBounds_toArray,List.set_cons_zero,List.set_cons_succ])
     refine wpAnyH_take (i:=11) (oi:=OP.p84) (v:=(.bool true)) rfl (by kernel_rfl) (by kernel_rfl) (by kernel_rfl) (fun _ _ _ h=>h) (Or.inl ⟨by rfl,fun X hX=>rfl⟩) hHeld ?_
     (try simp only [Act.put,List.setIfInBounds_toArray,List.set_cons_zero,List.set_cons_succ])
     refine wpAnyH_ready (rs:=[12]) (by kernel_rfl) (by simp) ?_
     refine (AllReadyH.cons (o:=OP.p85) rfl (fun K hK=>?_) AllReadyH.nil)
     refine wanted_step (by kernel_rfl) ?_
     go_simp
     go_at_call 109
     refine (cH _ hB6).mono ?_
     rintro e' w9 ⟨rfl,hR9,hS9⟩
     dsimp only
     refine hK.out _ _ (hS9) (fun hHeld=>?_)
     (try simp only [Act.put,List.setIfInBounds_toArray,List.set_cons_zero,List.set_cons_succ])
     clear hK K
     refine wpAnyH_done (by kernel_rfl) ?_ _
     clear hHeld
     (try go_wp2_with fail)
     go_meet
     exact hR9
    | false =>
     refine wp_region_held_drew (S:=fun X:World=>X.heap[b1]?=some (.cells #[.string kb1,.string tb1,.int .i64 f1,.int .i64 e1',.slice a1 n1 c1] 25 (0,0))) (by kernel_rfl) HP.out.h1 (fun hHeld=>?_)
     have hB0:Below w5.heap.size w5 w5.drew:=(Below.refl _ _).drew
     refine wpAnyH_take (i:=0) (oi:=OP.p73) (v:=(.pointer (some ⟨d,0,none⟩))) rfl (by kernel_rfl) (by kernel_rfl) (by kernel_rfl) (fun _ _ _ h=>h) (Or.inl ⟨by rfl,fun X hX=>rfl⟩) hHeld ?_
     (try simp only [Act.put,List.setIfInBounds_toArray,List.set_cons_zero,List.set_cons_succ])
     refine wpAnyH_take (i:=1) (oi:=OP.p74) (v:=(.agg #[.string kb1,.string tb1,.int .i64 f1,.int .i64 e1',.slice a1 n1 c1])) rfl (by kernel_rfl) (by kernel_rfl) (by kernel_rfl) (fun _ _ _ h=>h) (yields_load 25 (.tmp 5) rfl (by rfl) (fun X hX=>load_five hX)) hHeld ?_
     (try simp only [Act.put,List.setIfInBounds_toArray,List.set_cons_zero,List.set_cons_succ])
     refine wpAnyH_take (i:=2) (oi:=OP.p75) (v:=(.pointer (some ⟨b1,0,none⟩))) rfl (by kernel_rfl) (by kernel_rfl) (by kernel_rfl) (fun _ _ _ h=>h) (Or.inl ⟨by rfl,fun X hX=>rfl⟩) hHeld ?_
     (try simp only [Act.put,List.setIfInBounds_toArray,List.set_cons_zero,List.set_cons_succ])
     refine wpAnyH_take (i:=3) (oi:=OP.p76) (v:=(.string kb1)) rfl (by kernel_rfl) (by kernel_rfl) (by kernel_rfl) (fun _ _ _ h=>h) (yields_load 9 (.tmp 16) rfl (by rfl) (fun X hX=>load_str (J.cells_five hX).1.1)) hHeld ?_
     (try simp only [Act.put,List.setIfInBounds_toArray,List.set_cons_zero,List.set_cons_succ])
     refine wpAnyH_take (i:=4) (oi:=OP.p77) (v:=.bool true) rfl (by kernel_rfl) (by kernel_rfl) (by kernel_rfl) (fun _ _ _ h=>h) (yields_eql (Operand.tmp 17) (Operand.const (Value.string { data:=#[98,105,110,97,114,121] })) rfl (by rfl) rfl rfl e1) hHeld ?_
     (try simp only [Act.put,List.setIfInBounds_toArray,List.set_cons_zero,List.set_cons_succ])
     refine wpAnyH_take (i:=5) (oi:=OP.p78) (v:=(.bool true)) rfl (by kernel_rfl) (by kernel_rfl) (by kernel_rfl) (fun _ _ _ h=>h) (Or.inl ⟨by rfl,fun X hX=>rfl⟩) hHeld ?_
     (try simp only [Act.put,List.setIfInBounds_toArray,List.set_cons_zero,List.set_cons_succ])
     refine wpAnyH_take (i:=6) (oi:=OP.p79) (v:=(.pointer (some ⟨b1,1,none⟩))) rfl (by kernel_rfl) (by kernel_rfl) (by kernel_rfl) (fun _ _ _ h=>h) (Or.inl ⟨by rfl,fun X hX=>rfl⟩) hHeld ?_
     (try simp only [Act.put,List.setIfInBounds_toArray,List.set_cons_zero,List.set_cons_succ])
     refine wpAnyH_take (i:=7) (oi:=OP.p80) (v:=(.string tb1)) rfl (by kernel_rfl) (by kernel_rfl) (by kernel_rfl) (fun _ _ _ h=>h) (yields_load 9 (.tmp 20) rfl (by rfl) (fun X hX=>load_at (J.cells_five hX).1.2.1)) hHeld ?_
     (try simp only [Act.put,List.setIfInBounds_toArray,List.set_cons_zero,List.set_cons_succ])
     refine wpAnyH_take (i:=9) (oi:=OP.p81) (v:=(.int .i64 sp)) rfl (by kernel_rfl) (by kernel_rfl) (by kernel_rfl) (fun _ _ _ h=>h) (Or.inl ⟨by rfl,fun X hX=>rfl⟩) hHeld ?_
     (try simp only [Act.put,List.setIfInBounds_toArray,List.set_cons_zero,List.set_cons_succ])
     refine wpAnyH_ready (rs:=[8]) (by kernel_rfl) (by simp) ?_
     refine (AllReadyH.cons (o:=OP.p82) rfl (fun K hK=>?_) AllReadyH.nil)
     refine wanted_step (by kernel_rfl) ?_
     go_simp
     go_at_call 111
     refine (cS _ hB0).mono ?_
     rintro e' w6 ⟨rfl,hB6⟩
     dsimp only
     refine hK.out _ _ ((hB6.block _ (Array.getElem?_eq_some_iff.1 HP.out.h1).1).trans HP.out.h1) (fun hHeld=>?_)
     (try simp only [Act.put,List.setIfInBounds_toArray,List.set_cons_zero,List.set_cons_succ])
     clear hK K
     refine wpAnyH_take (i:=10) (oi:=OP.p83) (v:=.bool false) rfl (by kernel_rfl) (by kernel_rfl) (by kernel_rfl) (fun _ _ _ h=>h) (yields_lss (Operand.tmp 22) (Operand.tmp 23) rfl (by rfl) rfl rfl e2) hHeld ?_
     (try simp only [Act.put,List.setIfInBounds_toArray,List.set_cons_zero,List.set_cons_succ])
     refine wpAnyH_take (i:=11) (oi:=OP.p84) (v:=(.bool false)) rfl (by kernel_rfl) (by kernel_rfl) (by kernel_rfl) (fun _ _ _ h=>h) (Or.inl ⟨by rfl,fun X hX=>rfl⟩) hHeld ?_
     (try simp only [Act.put,List.setIfInBounds_toArray,List.set_cons_zero,List.set_cons_succ])
     refine wpAnyH_ready (rs:=[12]) (by kernel_rfl) (by simp) ?_
     refine (AllReadyH.cons (o:=OP.p85) rfl (fun K hK=>?_) AllReadyH.nil)
     refine wanted_step (by kernel_rfl) ?_
     go_simp
     go_at_call 109
     refine (cH _ hB6).mono ?_
     rintro e' w9 ⟨rfl,hR9,hS9⟩
     dsimp only
     refine hK.out _ _ (hS9) (fun hHeld=>?_)
     (try simp only [Act.put,List.setIfInBounds_toArray,List.set_cons_zero,List.set_cons_succ])
     clear hK K
     refine wpAnyH_done (by kernel_rfl) ?_ _
     clear hHeld
     (try go_wp2_with fail)
     go_meet
     exact hR9
   | false =>
    cases y2 with
    | true =>
     refine wp_region_held_drew (S:=fun X:World=>X.heap[b1]?=some (.cells #[.string kb1,.string tb1,.int .i64 f1,.int .i64 e1',.slice a1 n1 c1] 25 (0,0))) (by kernel_rfl) HP.out.h1 (fun hHeld=>?_)
     have hB0:Below w5.heap.size w5 w5.drew:=(Below.refl _ _).drew
     refine wpAnyH_take (i:=0) (oi:=OP.p73) (v:=(.pointer (some ⟨d,0,none⟩))) rfl (by kernel_rfl) (by kernel_rfl) (by kernel_rfl) (fun _ _ _ h=>h) (Or.inl ⟨by rfl,fun X hX=>rfl⟩) hHeld ?_
     (try simp only [Act.put,List.setIfInBounds_toArray,List.set_cons_zero,List.set_cons_succ])
     refine wpAnyH_take (i:=1) (oi:=OP.p74) (v:=(.agg #[.string kb1,.string tb1,.int .i64 f1,.int .i64 e1',.slice a1 n1 c1])) rfl (by kernel_rfl) (by kernel_rfl) (by kernel_rfl) (fun _ _ _ h=>h) (yields_load 25 (.tmp 5) rfl (by rfl) (fun X hX=>load_five hX)) hHeld ?_
     (try simp only [Act.put,List.setIfInBounds_toArray,List.set_cons_zero,List.set_cons_succ])
     refine wpAnyH_take (i:=2) (oi:=OP.p75) (v:=(.pointer (some ⟨b1,0,none⟩))) rfl (by kernel_rfl) (by kernel_rfl) (by kernel_rfl) (fun _ _ _ h=>h) (Or.inl ⟨by rfl,fun X hX=>rfl⟩) hHeld ?_
     (try simp only [Act.put,List.setIfInBounds_toArray,List.set_cons_zero,List.set_cons_succ])
     refine wpAnyH_take (i:=3) (oi:=OP.p76) (v:=(.string kb1)) rfl (by kernel_rfl) (by kernel_rfl) (by kernel_rfl) (fun _ _ _ h=>h) (yields_load 9 (.tmp 16) rfl (by rfl) (fun X hX=>load_str (J.cells_five hX).1.1)) hHeld ?_
     (try simp only [Act.put,List.setIfInBounds_toArray,List.set_cons_zero,List.set_cons_succ])
     refine wpAnyH_take (i:=4) (oi:=OP.p77) (v:=.bool false) rfl (by kernel_rfl) (by kernel_rfl) (by kernel_rfl) (fun _ _ _ h=>h) (yields_eql (Operand.tmp 17) (Operand.const (Value.string { data:=#[98,105,110,97,114,121] })) rfl (by rfl) rfl rfl e1) hHeld ?_
     (try simp only [Act.put,List.setIfInBounds_toArray,List.set_cons_zero,List.set_cons_succ])
     refine wpAnyH_take (i:=5) (oi:=OP.p78) (v:=(.bool false)) rfl (by kernel_rfl) (by kernel_rfl) (by kernel_rfl) (fun _ _ _ h=>h) (Or.inl ⟨by rfl,fun X hX=>rfl⟩) hHeld ?_
     (try simp only [Act.put,List.setIfInBounds_toArray,List.set_cons_zero,List.set_cons_succ])
     refine wpAnyH_take (i:=6) (oi:=OP.p79) (v:=undef) rfl (by kernel_rfl) (by kernel_rfl) (by kernel_rfl) (fun _ _ _ h=>h) (Or.inr ⟨by rfl,rfl⟩) hHeld ?_
     (try simp only [Act.put,List.setIfInBounds_toArray,List.set_cons_zero,List.set_cons_succ])
     refine wpAnyH_take (i:=7) (oi:=OP.p80) (v:=undef) rfl (by kernel_rfl) (by kernel_rfl) (by kernel_rfl) (fun _ _ _ h=>h) (Or.inr ⟨by rfl,rfl⟩) hHeld ?_
     (try simp only [Act.put,List.setIfInBounds_toArray,List.set_cons_zero,List.set_cons_succ])
     refine wpAnyH_take (i:=8) (oi:=OP.p82) (v:=undef) rfl (by kernel_rfl) (by kernel_rfl) (by kernel_rfl) (fun _ _ _ h=>h) (Or.inr ⟨by rfl,rfl⟩) hHeld ?_
     (try simp only [Act.put,List.setIfInBounds_toArray,List.set_cons_zero,List.set_cons_succ])
     refine wpAnyH_take (i:=9) (oi:=OP.p81) (v:=undef) rfl (by kernel_rfl) (by kernel_rfl) (by kernel_rfl) (fun _ _ _ h=>h) (Or.inr ⟨by rfl,rfl⟩) hHeld ?_
     (try simp only [Act.put,List.setIfInBounds_toArray,List.set_cons_zero,List.set_cons_succ])
     refine wpAnyH_take (i:=10) (oi:=OP.p83) (v:=undef) rfl (by kernel_rfl) (by kernel_rfl) (by kernel_rfl) (fun _ _ _ h=>h) (Or.inr ⟨by rfl,rfl⟩) hHeld ?_
     (try simp only [Act.put,List.setIfInBounds_toArray,List.set_cons_zero,List.set_cons_succ])
     refine wpAnyH_take (i:=11) (oi:=OP.p84) (v:=(.bool false)) rfl (by kernel_rfl) (by kernel_rfl) (by kernel_rfl) (fun _ _ _ h=>h) (Or.inl ⟨by rfl,fun X hX=>rfl⟩) hHeld ?_
     (try simp only [Act.put,List.setIfInBounds_toArray,List.set_cons_zero,List.set_cons_succ])
     refine wpAnyH_ready (rs:=[12]) (by kernel_rfl) (by simp) ?_
     refine (AllReadyH.cons (o:=OP.p85) rfl (fun K hK=>?_) AllReadyH.nil)
     refine wanted_step (by kernel_rfl) ?_
     go_simp
     go_at_call 109
     refine (cH _ hB0).mono ?_
     rintro e' w9 ⟨rfl,hR9,hS9⟩
     dsimp only
     refine hK.out _ _ (hS9) (fun hHeld=>?_)
     (try simp only [Act.put,List.setIfInBounds_toArray,List.set_cons_zero,List.set_cons_succ])
     clear hK K
     refine wpAnyH_done (by kernel_rfl) ?_ _
     clear hHeld
     (try go_wp2_with fail)
     go_meet
     exact hR9
    | false =>
     refine wp_region_held_drew (S:=fun X:World=>X.heap[b1]?=some (.cells #[.string kb1,.string tb1,.int .i64 f1,.int .i64 e1',.slice a1 n1 c1] 25 (0,0))) (by kernel_rfl) HP.out.h1 (fun hHeld=>?_)
     have hB0:Below w5.heap.size w5 w5.drew:=(Below.refl _ _).drew
     refine wpAnyH_take (i:=0) (oi:=OP.p73) (v:=(.pointer (some ⟨d,0,none⟩))) rfl (by kernel_rfl) (by kernel_rfl) (by kernel_rfl) (fun _ _ _ h=>h) (Or.inl ⟨by rfl,fun X hX=>rfl⟩) hHeld ?_
     (try simp only [Act.put,List.setIfInBounds_toArray,List.set_cons_zero,List.set_cons_succ])
     refine wpAnyH_take (i:=1) (oi:=OP.p74) (v:=(.agg #[.string kb1,.string tb1,.int .i64 f1,.int .i64 e1',.slice a1 n1 c1])) rfl (by kernel_rfl) (by kernel_rfl) (by kernel_rfl) (fun _ _ _ h=>h) (yields_load 25 (.tmp 5) rfl (by rfl) (fun X hX=>load_five hX)) hHeld ?_
     (try simp only [Act.put,List.setIfInBounds_toArray,List.set_cons_zero,List.set_cons_succ])
     refine wpAnyH_take (i:=2) (oi:=OP.p75) (v:=(.pointer (some ⟨b1,0,none⟩))) rfl (by kernel_rfl) (by kernel_rfl) (by kernel_rfl) (fun _ _ _ h=>h) (Or.inl ⟨by rfl,fun X hX=>rfl⟩) hHeld ?_
     (try simp only [Act.put,List.setIfInBounds_toArray,List.set_cons_zero,List.set_cons_succ])
     refine wpAnyH_take (i:=3) (oi:=OP.p76) (v:=(.string kb1)) rfl (by kernel_rfl) (by kernel_rfl) (by kernel_rfl) (fun _ _ _ h=>h) (yields_load 9 (.tmp 16) rfl (by rfl) (fun X hX=>load_str (J.cells_five hX).1.1)) hHeld ?_
     (try simp only [Act.put,List.setIfInBounds_toArray,List.set_cons_zero,List.set_cons_succ])
     refine wpAnyH_take (i:=4) (oi:=OP.p77) (v:=.bool false) rfl (by kernel_rfl) (by kernel_rfl) (by kernel_rfl) (fun _ _ _ h=>h) (yields_eql (Operand.tmp 17) (Operand.const (Value.string { data:=#[98,105,110,97,114,121] })) rfl (by rfl) rfl rfl e1) hHeld ?_
     (try simp only [Act.put,List.setIfInBounds_toArray,List.set_cons_zero,List.set_cons_succ])
     refine wpAnyH_take (i:=5) (oi:=OP.p78) (v:=(.bool false)) rfl (by kernel_rfl) (by kernel_rfl) (by kernel_rfl) (fun _ _ _ h=>h) (Or.inl ⟨by rfl,fun X hX=>rfl⟩) hHeld ?_
     (try simp only [Act.put,List.setIfInBounds_toArray,List.set_cons_zero,List.set_cons_succ])
     refine wpAnyH_take (i:=6) (oi:=OP.p79) (v:=undef) rfl (by kernel_rfl) (by kernel_rfl) (by kernel_rfl) (fun _ _ _ h=>h) (Or.inr ⟨by rfl,rfl⟩) hHeld ?_
     (try simp only [Act.put,List.setIfInBounds_toArray,List.set_cons_zero,List.set_cons_succ])
     refine wpAnyH_take (i:=7) (oi:=OP.p80) (v:=undef) rfl (by kernel_rfl) (by kernel_rfl) (by kernel_rfl) (fun _ _ _ h=>h) (Or.inr ⟨by rfl,rfl⟩) hHeld ?_
     (try simp only [Act.put,List.setIfInBounds_toArray,List.set_cons_zero,List.set_cons_succ])
     refine wpAnyH_take (i:=8) (oi:=OP.p82) (v:=undef) rfl (by kernel_rfl) (by kernel_rfl) (by kernel_rfl) (fun _ _ _ h=>h) (Or.inr ⟨by rfl,rfl⟩) hHeld ?_
     (try simp only [Act.put,List.setIfInBounds_toArray,List.set_cons_zero,List.set_cons_succ])
     refine wpAnyH_take (i:=9) (oi:=OP.p81) (v:=undef) rfl (by kernel_rfl) (by kernel_rfl) (by kernel_rfl) (fun _ _ _ h=>h) (Or.inr ⟨by rfl,rfl⟩) hHeld ?_
     (try simp only [Act.put,List.setIfInBounds_toArray,List.set_cons_zero,List.set_cons_succ])
     refine wpAnyH_take (i:=10) (oi:=OP.p83) (v:=undef) rfl (by kernel_rfl) (by kernel_rfl) (by kernel_rfl) (fun _ _ _ h=>h) (Or.inr ⟨by rfl,rfl⟩) hHeld ?_
     (try simp only [Act.put,List.setIfInBounds_toArray,List.set_cons_zero,List.set_cons_succ])
     refine wpAnyH_take (i:=11) (oi:=OP.p84) (v:=(.bool false)) rfl (by kernel_rfl) (by kernel_rfl) (by kernel_rfl) (fun _ _ _ h=>h) (Or.inl ⟨by rfl,fun X hX=>rfl⟩) hHeld ?_
     (try simp only [Act.put,List.setIfInBounds_toArray,List.set_cons_zero,List.set_cons_succ])
     refine wpAnyH_ready (rs:=[12]) (by kernel_rfl) (by simp) ?_
     refine (AllReadyH.cons (o:=OP.p85) rfl (fun K hK=>?_) AllReadyH.nil)
     refine wanted_step (by kernel_rfl) ?_
     go_simp
     go_at_call 109
     refine (cH _ hB0).mono ?_
     rintro e' w9 ⟨rfl,hR9,hS9⟩
     dsimp only
     refine hK.out _ _ (hS9) (fun hHeld=>?_)
     (try simp only [Act.put,List.setIfInBounds_toArray,List.set_cons_zero,List.set_cons_succ])
     clear hK K
     refine wpAnyH_done (by kernel_rfl) ?_ _
     clear hHeld
     (try go_wp2_with fail)
     go_meet
     exact hR9
  case rest =>
   have HP:=hcut
   clear hcut HU cS cH e1 e2
   clear y1 y2
   have c3:=write3 HP.out.fr.wr ⟨#[32]⟩ tb ⟨#[32]⟩ ([32]++(t++[32])) (by rw [← HTB.out];rfl) (by have:=HL.out;simp only [List.length_append,List.length_cons,List.length_nil];omega)
   obtain ⟨⟨p0,p1,p2,p3,p4⟩,pf⟩:=J.cells_five HP.out.fr.box
   go_wp2_with fail
   refine c3.mono ?_
   rintro e' w5 ⟨rfl,hw5,hk5⟩
   replace HP:=hid (HP.out.step hw5 hk5)
   clear c3 hw5 hk5 p0 p1 p2 p3 p4 pf
   obtain ⟨y1,hy1⟩:∃ y,decide (k2=kBinary)=y:=⟨_,rfl⟩
   obtain ⟨y2,hy2⟩:∃ y,decide (((strB t2:Nat):Int)≤((strB t:Nat):Int))=y:=⟨_,rfl⟩
   have hu:rHeld t (.mk k2 t2 f2 e2' ks2)=(y1&&y2):=by
    have e3:decide (strB t2≤strB t)=y2:=by rw [← hy2];simp
    rw [← hy1,← e3];rfl
   have HU:=hid hu
   have e1:(kb2.toList==(⟨#[98,105,110,97,114,121]⟩:ByteArray).toList)=y1:=by rw [← hy1,show (⟨#[98,105,110,97,114,121]⟩:ByteArray).toList=kBinary from by rw [ByteArray.toList_eq];rfl,← HKB2.out];exact tb_eq k2 kBinary
   have e2:decide (((strB t2:Nat):Int)≤sp)=y2:=by rw [HSP.out] at hy2;exact hy2
   have cS:∀ X,Below w5.heap.size w5 X→Calls Tryz.prog 111 #[.string tb2] X fun e' w'=>e'=.returned (.int .i64 (strB t2))∧Below w5.heap.size w5 w':=fun X hX=>(strength_any t2 tb2 HTB2.out X).mono fun _ w' ⟨h1,h2⟩=>⟨h1,by rw [h2];exact hX⟩
   have cH:∀ X,Below w5.heap.size w5 X→Calls Tryz.prog 109 #[.pointer (some ⟨d,0,none⟩),.agg #[.string kb2,.string tb2,.int .i64 f2,.int .i64 e2',.slice a2 n2 c2],.bool (y1&&y2)] X fun e' w'=>e'=.returned (.tuple #[])∧Hid (Pair d m ind (bs++x1++([32]++(t++[32]))++x2) (.mk k t f e ks) (.slice a n c) #[.string kb,.string tb,.int .i64 f,.int .i64 e,.slice a n c] b W (.mk k1 t1 f1 e1' ks1) (.mk k2 t2 f2 e2' ks2) (.slice a1 n1 c1) (.slice a2 n2 c2) #[.string kb1,.string tb1,.int .i64 f1,.int .i64 e1',.slice a1 n1 c1] #[.string kb2,.string tb2,.int .i64 f2,.int .i64 e2',.slice a2 n2 c2] b1 b2 w')∧w'.heap[b2]?=some (.cells #[.string kb2,.string tb2,.int .i64 f2,.int .i64 e2',.slice a2 n2 c2] 25 (0,0)):=fun X hX=>by
    have hk:=(Kp.refl d w5).later hX (Nat.le_of_lt HP.out.fr.wr.bx.lt)
    have hpx:=HP.out.step (HP.out.fr.wr.later hX) hk
    have:=held_any (p:=.mk k2 t2 f2 e2' ks2) (cs:=#[.string kb2,.string tb2,.int .i64 f2,.int .i64 e2',.slice a2 n2 c2]) (rHeld t (.mk k2 t2 f2 e2' ks2)) HPC2.out (by rw [← HKB2.out,← HTB2.out,← HN2.out];rfl) hpx.fr.wr hpx.k2 hwt2 hdp2 (by rw [HX2.out];have:=HL.out;(try simp only [List.length_append,List.length_cons,List.length_nil]);omega)
    rw [HX2.out,HU.out] at this
    exact this.mono fun _ w' ⟨h1,h2,h3⟩=>⟨h1,hid (hpx.step h2 h3),(hpx.step h2 h3).h2⟩
   clear hy1 hy2 hu
   go_upto_region 5 with fail
   cases y1 with
   | true =>
    cases y2 with
    | true =>
     refine wp_region_held_drew (S:=fun X:World=>X.heap[b2]?=some (.cells #[.string kb2,.string tb2,.int .i64 f2,.int .i64 e2',.slice a2 n2 c2] 25 (0,0))) (by kernel_rfl) HP.out.h2 (fun hHeld=>?_)
     have hB0:Below w5.heap.size w5 w5.drew:=(Below.refl _ _).drew
     refine wpAnyH_take (i:=0) (oi:=OP.p86) (v:=(.pointer (some ⟨d,0,none⟩))) rfl (by kernel_rfl) (by kernel_rfl) (by kernel_rfl) (fun _ _ _ h=>h) (Or.inl ⟨by rfl,fun X hX=>rfl⟩) hHeld ?_
     (try simp only [Act.put,List.setIfInBounds_toArray,List.set_cons_zero,List.set_cons_succ])
     refine wpAnyH_take (i:=1) (oi:=OP.p87) (v:=(.agg #[.string kb2,.string tb2,.int .i64 f2,.int .i64 e2',.slice a2 n2 c2])) rfl (by kernel_rfl) (by kernel_rfl) (by kernel_rfl) (fun _ _ _ h=>h) (yields_load 25 (.tmp 6) rfl (by rfl) (fun X hX=>load_five hX)) hHeld ?_
     (try simp only [Act.put,List.setIfInBounds_toArray,List.set_cons_zero,List.set_cons_succ])
     refine wpAnyH_take (i:=2) (oi:=OP.p88) (v:=(.pointer (some ⟨b2,0,none⟩))) rfl (by kernel_rfl) (by kernel_rfl) (by kernel_rfl) (fun _ _ _ h=>h) (Or.inl ⟨by rfl,fun X hX=>rfl⟩) hHeld ?_
     (try simp only [Act.put,List.setIfInBounds_toArray,List.set_cons_zero,List.set_cons_succ])
     refine wpAnyH_take (i:=3) (oi:=OP.p89) (v:=(.string kb2)) rfl (by kernel_rfl) (by kernel_rfl) (by kernel_rfl) (fun _ _ _ h=>h) (yields_load 9 (.tmp 34) rfl (by rfl) (fun X hX=>load_str (J.cells_five hX).1.1)) hHeld ?_
     (try simp only [Act.put,List.setIfInBounds_toArray,List.set_cons_zero,List.set_cons_succ])
     refine wpAnyH_take (i:=4) (oi:=OP.p90) (v:=.bool true) rfl (by kernel_rfl) (by kernel_rfl) (by kernel_rfl) (fun _ _ _ h=>h) (yields_eql (Operand.tmp 35) (Operand.const (Value.string { data:=#[98,105,110,97,114,121] })) rfl (by rfl) rfl rfl e1) hHeld ?_
     (try simp only [Act.put,List.setIfInBounds_toArray,List.set_cons_zero,List.set_cons_succ])
     refine wpAnyH_take (i:=5) (oi:=OP.p91) (v:=(.bool true)) rfl (by kernel_rfl) (by kernel_rfl) (by kernel_rfl) (fun _ _ _ h=>h) (Or.inl ⟨by rfl,fun X hX=>rfl⟩) hHeld ?_
     (try simp only [Act.put,List.setIfInBounds_toArray,List.set_cons_zero,List.set_cons_succ])
     refine wpAnyH_take (i:=6) (oi:=OP.p92) (v:=(.pointer (some ⟨b2,1,none⟩))) rfl (by kernel_rfl) (by kernel_rfl) (by kernel_rfl) (fun _ _ _ h=>h) (Or.inl ⟨by rfl,fun X hX=>rfl⟩) hHeld ?_
     (try simp only [Act.put,List.setIfInBounds_toArray,List.set_cons_zero,List.set_cons_succ])
     refine wpAnyH_take (i:=7) (oi:=OP.p93) (v:=(.string tb2)) rfl (by kernel_rfl) (by kernel_rfl) (by kernel_rfl) (fun _ _ _ h=>h) (yields_load 9 (.tmp 38) rfl (by rfl) (fun X hX=>load_at (J.cells_five hX).1.2.1)) hHeld ?_
     (try simp only [Act.put,List.setIfInBounds_toArray,List.set_cons_zero,List.set_cons_succ])
     refine wpAnyH_take (i:=9) (oi:=OP.p94) (v:=(.int .i64 sp)) rfl (by kernel_rfl) (by kernel_rfl) (by kernel_rfl) (fun _ _ _ h=>h) (Or.inl ⟨by rfl,fun X hX=>rfl⟩) hHeld ?_
     (try simp only [Act.put,List.setIfInBounds_toArray,List.set_cons_zero,List.set_cons_succ])
     refine wpAnyH_ready (rs:=[8]) (by kernel_rfl) (by simp) ?_
     refine (AllReadyH.cons (o:=OP.p95) rfl (fun K hK=>?_) AllReadyH.nil)
     refine wanted_step (by kernel_rfl) ?_
     go_simp
     go_at_call 111
     refine (cS _ hB0).mono ?_
     rintro e' w6 ⟨rfl,hB6⟩
     dsimp only
     refine hK.out _ _ ((hB6.block _ (Array.getElem?_eq_some_iff.1 HP.out.h2).1).trans HP.out.h2) (fun hHeld=>?_)
     (try simp only [Act.put,List.setIfInBounds_toArray,List.set_cons_zero,List.set_cons_succ])
     clear hK K
     refine wpAnyH_take (i:=10) (oi:=OP.p96) (v:=.bool true) rfl (by kernel_rfl) (by kernel_rfl) (by kernel_rfl) (fun _ _ _ h=>h) (yields_leq (Operand.tmp 40) (Operand.tmp 41) rfl (by rfl) rfl rfl e2) hHeld ?_
     (try simp only [Act.put,List.setIfInBounds_toArray,List.set_cons_zero,List.set_cons_succ])
     refine wpAnyH_take (i:=11) (oi:=OP.p97) (v:=(.bool true)) rfl (by kernel_rfl) (by kernel_rfl) (by kernel_rfl) (fun _ _ _ h=>h) (Or.inl ⟨by rfl,fun X hX=>rfl⟩) hHeld ?_
     (try simp only [Act.put,List.setIfInBounds_toArray,List.set_cons_zero,List.set_cons_succ])
     refine wpAnyH_ready (rs:=[12]) (by kernel_rfl) (by simp) ?_
     refine (AllReadyH.cons (o:=OP.p98) rfl (fun K hK=>?_) AllReadyH.nil)
     refine wanted_step (by kernel_rfl) ?_
     go_simp
     go_at_call 109
     refine (cH _ hB6).mono ?_
     rintro e' w9 ⟨rfl,hR9,hS9⟩
     dsimp only
     refine hK.out _ _ (hS9) (fun hHeld=>?_)
     (try simp only [Act.put,List.setIfInBounds_toArray,List.set_cons_zero,List.set_cons_succ])
     clear hK K
     refine wpAnyH_done (by kernel_rfl) ?_ _
     clear hHeld
     (try go_wp2_with fail)
     go_end0
     exact ⟨rfl,by simpa [List.append_assoc] using hR9.out.fr.wr,hR9.out.fr.kp⟩
    | false =>
     refine wp_region_held_drew (S:=fun X:World=>X.heap[b2]?=some (.cells #[.string kb2,.string tb2,.int .i64 f2,.int .i64 e2',.slice a2 n2 c2] 25 (0,0))) (by kernel_rfl) HP.out.h2 (fun hHeld=>?_)
     have hB0:Below w5.heap.size w5 w5.drew:=(Below.refl _ _).drew
     refine wpAnyH_take (i:=0) (oi:=OP.p86) (v:=(.pointer (some ⟨d,0,none⟩))) rfl (by kernel_rfl) (by kernel_rfl) (by kernel_rfl) (fun _ _ _ h=>h) (Or.inl ⟨by rfl,fun X hX=>rfl⟩) hHeld ?_
     (try simp only [Act.put,List.setIfInBounds_toArray,List.set_cons_zero,List.set_cons_succ])
     refine wpAnyH_take (i:=1) (oi:=OP.p87) (v:=(.agg #[.string kb2,.string tb2,.int .i64 f2,.int .i64 e2',.slice a2 n2 c2])) rfl (by kernel_rfl) (by kernel_rfl) (by kernel_rfl) (fun _ _ _ h=>h) (yields_load 25 (.tmp 6) rfl (by rfl) (fun X hX=>load_five hX)) hHeld ?_
     (try simp only [Act.put,List.setIfInBounds_toArray,List.set_cons_zero,List.set_cons_succ])
     refine wpAnyH_take (i:=2) (oi:=OP.p88) (v:=(.pointer (some ⟨b2,0,none⟩))) rfl (by kernel_rfl) (by kernel_rfl) (by kernel_rfl) (fun _ _ _ h=>h) (Or.inl ⟨by rfl,fun X hX=>rfl⟩) hHeld ?_
     (try simp only [Act.put,List.setIfInBounds_toArray,List.set_cons_zero,List.set_cons_succ])
     refine wpAnyH_take (i:=3) (oi:=OP.p89) (v:=(.string kb2)) rfl (by kernel_rfl) (by kernel_rfl) (by kernel_rfl) (fun _ _ _ h=>h) (yields_load 9 (.tmp 34) rfl (by rfl) (fun X hX=>load_str (J.cells_five hX).1.1)) hHeld ?_
     (try simp only [Act.put,List.setIfInBounds_toArray,List.set_cons_zero,List.set_cons_succ])
     refine wpAnyH_take (i:=4) (oi:=OP.p90) (v:=.bool true) rfl (by kernel_rfl) (by kernel_rfl) (by kernel_rfl) (fun _ _ _ h=>h) (yields_eql (Operand.tmp 35) (Operand.const (Value.string { data:=#[98,105,110,97,114,121] })) rfl (by rfl) rfl rfl e1) hHeld ?_
     (try simp only [Act.put,List.setIfInBounds_toArray,List.set_cons_zero,List.set_cons_succ])
     refine wpAnyH_take (i:=5) (oi:=OP.p91) (v:=(.bool true)) rfl (by kernel_rfl) (by kernel_rfl) (by kernel_rfl) (fun _ _ _ h=>h) (Or.inl ⟨by rfl,fun X hX=>rfl⟩) hHeld ?_
     (try simp only [Act.put,List.setIfInBounds_toArray,List.set_cons_zero,List.set_cons_succ])
     refine wpAnyH_take (i:=6) (oi:=OP.p92) (v:=(.pointer (some ⟨b2,1,none⟩))) rfl (by kernel_rfl) (by kernel_rfl) (by kernel_rfl) (fun _ _ _ h=>h) (Or.inl ⟨by rfl,fun X hX=>rfl⟩) hHeld ?_
     (try simp only [Act.put,List.setIfInBounds_toArray,List.set_cons_zero,List.set_cons_succ])
     refine wpAnyH_take (i:=7) (oi:=OP.p93) (v:=(.string tb2)) rfl (by kernel_rfl) (by kernel_rfl) (by kernel_rfl) (fun _ _ _ h=>h) (yields_load 9 (.tmp 38) rfl (by rfl) (fun X hX=>load_at (J.cells_five hX).1.2.1)) hHeld ?_
     (try simp only [Act.put,List.setIfInBounds_toArray,List.set_cons_zero,List.set_cons_succ])
     refine wpAnyH_take (i:=9) (oi:=OP.p94) (v:=(.int .i64 sp)) rfl (by kernel_rfl) (by kernel_rfl) (by kernel_rfl) (fun _ _ _ h=>h) (Or.inl ⟨by rfl,fun X hX=>rfl⟩) hHeld ?_
     (try simp only [Act.put,List.setIfInBounds_toArray,List.set_cons_zero,List.set_cons_succ])
     refine wpAnyH_ready (rs:=[8]) (by kernel_rfl) (by simp) ?_
     refine (AllReadyH.cons (o:=OP.p95) rfl (fun K hK=>?_) AllReadyH.nil)
     refine wanted_step (by kernel_rfl) ?_
     go_simp
     go_at_call 111
     refine (cS _ hB0).mono ?_
     rintro e' w6 ⟨rfl,hB6⟩
     dsimp only
     refine hK.out _ _ ((hB6.block _ (Array.getElem?_eq_some_iff.1 HP.out.h2).1).trans HP.out.h2) (fun hHeld=>?_)
     (try simp only [Act.put,List.setIfInBounds_toArray,List.set_cons_zero,List.set_cons_succ])
     clear hK K
     refine wpAnyH_take (i:=10) (oi:=OP.p96) (v:=.bool false) rfl (by kernel_rfl) (by kernel_rfl) (by kernel_rfl) (fun _ _ _ h=>h) (yields_leq (Operand.tmp 40) (Operand.tmp 41) rfl (by rfl) rfl rfl e2) hHeld ?_
     (try simp only [Act.put,List.setIfInBounds_toArray,List.set_cons_zero,List.set_cons_succ])
     refine wpAnyH_take (i:=11) (oi:=OP.p97) (v:=(.bool false)) rfl (by kernel_rfl) (by kernel_rfl) (by kernel_rfl) (fun _ _ _ h=>h) (Or.inl ⟨by rfl,fun X hX=>rfl⟩) hHeld ?_
     (try simp only [Act.put,List.setIfInBounds_toArray,List.set_cons_zero,List.set_cons_succ])
     refine wpAnyH_ready (rs:=[12]) (by kernel_rfl) (by simp) ?_
     refine (AllReadyH.cons (o:=OP.p98) rfl (fun K hK=>?_) AllReadyH.nil)
     refine wanted_step (by kernel_rfl) ?_
     go_simp
     go_at_call 109
     refine (cH _ hB6).mono ?_
     rintro e' w9 ⟨rfl,hR9,hS9⟩
     dsimp only
     refine hK.out _ _ (hS9) (fun hHeld=>?_)
     (try simp only [Act.put,List.setIfInBounds_toArray,List.set_cons_zero,List.set_cons_succ])
     clear hK K
     refine wpAnyH_done (by kernel_rfl) ?_ _
     clear hHeld
     (try go_wp2_with fail)
     go_end0
     exact ⟨rfl,by simpa [List.append_assoc] using hR9.out.fr.wr,hR9.out.fr.kp⟩
   | false =>
    cases y2 with
    | true =>
     refine wp_region_held_drew (S:=fun X:World=>X.heap[b2]?=some (.cells #[.string kb2,.string tb2,.int .i64 f2,.int .i64 e2',.slice a2 n2 c2] 25 (0,0))) (by kernel_rfl) HP.out.h2 (fun hHeld=>?_)
     have hB0:Below w5.heap.size w5 w5.drew:=(Below.refl _ _).drew
     refine wpAnyH_take (i:=0) (oi:=OP.p86) (v:=(.pointer (some ⟨d,0,none⟩))) rfl (by kernel_rfl) (by kernel_rfl) (by kernel_rfl) (fun _ _ _ h=>h) (Or.inl ⟨by rfl,fun X hX=>rfl⟩) hHeld ?_
     (try simp only [Act.put,List.setIfInBounds_toArray,List.set_cons_zero,List.set_cons_succ])
     refine wpAnyH_take (i:=1) (oi:=OP.p87) (v:=(.agg #[.string kb2,.string tb2,.int .i64 f2,.int .i64 e2',.slice a2 n2 c2])) rfl (by kernel_rfl) (by kernel_rfl) (by kernel_rfl) (fun _ _ _ h=>h) (yields_load 25 (.tmp 6) rfl (by rfl) (fun X hX=>load_five hX)) hHeld ?_
     (try simp only [Act.put,List.setIfInBounds_toArray,List.set_cons_zero,List.set_cons_succ])
     refine wpAnyH_take (i:=2) (oi:=OP.p88) (v:=(.pointer (some ⟨b2,0,none⟩))) rfl (by kernel_rfl) (by kernel_rfl) (by kernel_rfl) (fun _ _ _ h=>h) (Or.inl ⟨by rfl,fun X hX=>rfl⟩) hHeld ?_
     (try simp only [Act.put,List.setIfInBounds_toArray,List.set_cons_zero,List.set_cons_succ])
     refine wpAnyH_take (i:=3) (oi:=OP.p89) (v:=(.string kb2)) rfl (by kernel_rfl) (by kernel_rfl) (by kernel_rfl) (fun _ _ _ h=>h) (yields_load 9 (.tmp 34) rfl (by rfl) (fun X hX=>load_str (J.cells_five hX).1.1)) hHeld ?_
     (try simp only [Act.put,List.setIfInBounds_toArray,List.set_cons_zero,List.set_cons_succ])
     refine wpAnyH_take (i:=4) (oi:=OP.p90) (v:=.bool false) rfl (by kernel_rfl) (by kernel_rfl) (by kernel_rfl) (fun _ _ _ h=>h) (yields_eql (Operand.tmp 35) (Operand.const (Value.string { data:=#[98,105,110,97,114,121] })) rfl (by rfl) rfl rfl e1) hHeld ?_
     (try simp only [Act.put,List.setIfInBounds_toArray,List.set_cons_zero,List.set_cons_succ])
     refine wpAnyH_take (i:=5) (oi:=OP.p91) (v:=(.bool false)) rfl (by kernel_rfl) (by kernel_rfl) (by kernel_rfl) (fun _ _ _ h=>h) (Or.inl ⟨by rfl,fun X hX=>rfl⟩) hHeld ?_
     (try simp only [Act.put,List.setIfInBounds_toArray,List.set_cons_zero,List.set_cons_succ])
     refine wpAnyH_take (i:=6) (oi:=OP.p92) (v:=undef) rfl (by kernel_rfl) (by kernel_rfl) (by kernel_rfl) (fun _ _ _ h=>h) (Or.inr ⟨by rfl,rfl⟩) hHeld ?_
     (try simp only [Act.put,List.setIfInBounds_toArray,List.set_cons_zero,List.set_cons_succ])
     refine wpAnyH_take (i:=7) (oi:=OP.p93) (v:=undef) rfl (by kernel_rfl) (by kernel_rfl) (by kernel_rfl) (fun _ _ _ h=>h) (Or.inr ⟨by rfl,rfl⟩) hHeld ?_
     (try simp only [Act.put,List.setIfInBounds_toArray,List.set_cons_zero,List.set_cons_succ])
     refine wpAnyH_take (i:=8) (oi:=OP.p95) (v:=undef) rfl (by kernel_rfl) (by kernel_rfl) (by kernel_rfl) (fun _ _ _ h=>h) (Or.inr ⟨by rfl,rfl⟩) hHeld ?_
     (try simp only [Act.put,List.setIfInBounds_toArray,List.set_cons_zero,List.set_cons_succ])
     refine wpAnyH_take (i:=9) (oi:=OP.p94) (v:=undef) rfl (by kernel_rfl) (by kernel_rfl) (by kernel_rfl) (fun _ _ _ h=>h) (Or.inr ⟨by rfl,rfl⟩) hHeld ?_
     (try simp only [Act.put,List.setIfInBounds_toArray,List.set_cons_zero,List.set_cons_succ])
     refine wpAnyH_take (i:=10) (oi:=OP.p96) (v:=undef) rfl (by kernel_rfl) (by kernel_rfl) (by kernel_rfl) (fun _ _ _ h=>h) (Or.inr ⟨by rfl,rfl⟩) hHeld ?_
     (try simp only [Act.put,List.setIfInBounds_toArray,List.set_cons_zero,List.set_cons_succ])
     refine wpAnyH_take (i:=11) (oi:=OP.p97) (v:=(.bool false)) rfl (by kernel_rfl) (by kernel_rfl) (by kernel_rfl) (fun _ _ _ h=>h) (Or.inl ⟨by rfl,fun X hX=>rfl⟩) hHeld ?_
     (try simp only [Act.put,List.setIfInBounds_toArray,List.set_cons_zero,List.set_cons_succ])
     refine wpAnyH_ready (rs:=[12]) (by kernel_rfl) (by simp) ?_
     refine (AllReadyH.cons (o:=OP.p98) rfl (fun K hK=>?_) AllReadyH.nil)
     refine wanted_step (by kernel_rfl) ?_
     go_simp
     go_at_call 109
     refine (cH _ hB0).mono ?_
     rintro e' w9 ⟨rfl,hR9,hS9⟩
     dsimp only
     refine hK.out _ _ (hS9) (fun hHeld=>?_)
     (try simp only [Act.put,List.setIfInBounds_toArray,List.set_cons_zero,List.set_cons_succ])
     clear hK K
     refine wpAnyH_done (by kernel_rfl) ?_ _
     clear hHeld
     (try go_wp2_with fail)
     go_end0
     exact ⟨rfl,by simpa [List.append_assoc] using hR9.out.fr.wr,hR9.out.fr.kp⟩
    | false =>
     refine wp_region_held_drew (S:=fun X:World=>X.heap[b2]?=some (.cells #[.string kb2,.string tb2,.int .i64 f2,.int .i64 e2',.slice a2 n2 c2] 25 (0,0))) (by kernel_rfl) HP.out.h2 (fun hHeld=>?_)
     have hB0:Below w5.heap.size w5 w5.drew:=(Below.refl _ _).drew
     refine wpAnyH_take (i:=0) (oi:=OP.p86) (v:=(.pointer (some ⟨d,0,none⟩))) rfl (by kernel_rfl) (by kernel_rfl) (by kernel_rfl) (fun _ _ _ h=>h) (Or.inl ⟨by rfl,fun X hX=>rfl⟩) hHeld ?_
     (try simp only [Act.put,List.setIfInBounds_toArray,List.set_cons_zero,List.set_cons_succ])
     refine wpAnyH_take (i:=1) (oi:=OP.p87) (v:=(.agg #[.string kb2,.string tb2,.int .i64 f2,.int .i64 e2',.slice a2 n2 c2])) rfl (by kernel_rfl) (by kernel_rfl) (by kernel_rfl) (fun _ _ _ h=>h) (yields_load 25 (.tmp 6) rfl (by rfl) (fun X hX=>load_five hX)) hHeld ?_
     (try simp only [Act.put,List.setIfInBounds_toArray,List.set_cons_zero,List.set_cons_succ])
     refine wpAnyH_take (i:=2) (oi:=OP.p88) (v:=(.pointer (some ⟨b2,0,none⟩))) rfl (by kernel_rfl) (by kernel_rfl) (by kernel_rfl) (fun _ _ _ h=>h) (Or.inl ⟨by rfl,fun X hX=>rfl⟩) hHeld ?_
     (try simp only [Act.put,List.setIfInBounds_toArray,List.set_cons_zero,List.set_cons_succ])
     refine wpAnyH_take (i:=3) (oi:=OP.p89) (v:=(.string kb2)) rfl (by kernel_rfl) (by kernel_rfl) (by kernel_rfl) (fun _ _ _ h=>h) (yields_load 9 (.tmp 34) rfl (by rfl) (fun X hX=>load_str (J.cells_five hX).1.1)) hHeld ?_
     (try simp only [Act.put,List.setIfInBounds_toArray,List.set_cons_zero,List.set_cons_succ])
     refine wpAnyH_take (i:=4) (oi:=OP.p90) (v:=.bool false) rfl (by kernel_rfl) (by kernel_rfl) (by kernel_rfl) (fun _ _ _ h=>h) (yields_eql (Operand.tmp 35) (Operand.const (Value.string { data:=#[98,105,110,97,114,121] })) rfl (by rfl) rfl rfl e1) hHeld ?_
     (try simp only [Act.put,List.setIfInBounds_toArray,List.set_cons_zero,List.set_cons_succ])
     refine wpAnyH_take (i:=5) (oi:=OP.p91) (v:=(.bool false)) rfl (by kernel_rfl) (by kernel_rfl) (by kernel_rfl) (fun _ _ _ h=>h) (Or.inl ⟨by rfl,fun X hX=>rfl⟩) hHeld ?_
     (try simp only [Act.put,List.setIfInBounds_toArray,List.set_cons_zero,List.set_cons_succ])
     refine wpAnyH_take (i:=6) (oi:=OP.p92) (v:=undef) rfl (by kernel_rfl) (by kernel_rfl) (by kernel_rfl) (fun _ _ _ h=>h) (Or.inr ⟨by rfl,rfl⟩) hHeld ?_
     (try simp only [Act.put,List.setIfInBounds_toArray,List.set_cons_zero,List.set_cons_succ])
     refine wpAnyH_take (i:=7) (oi:=OP.p93) (v:=undef) rfl (by kernel_rfl) (by kernel_rfl) (by kernel_rfl) (fun _ _ _ h=>h) (Or.inr ⟨by rfl,rfl⟩) hHeld ?_
     (try simp only [Act.put,List.setIfInBounds_toArray,List.set_cons_zero,List.set_cons_succ])
     refine wpAnyH_take (i:=8) (oi:=OP.p95) (v:=undef) rfl (by kernel_rfl) (by kernel_rfl) (by kernel_rfl) (fun _ _ _ h=>h) (Or.inr ⟨by rfl,rfl⟩) hHeld ?_
     (try simp only [Act.put,List.setIfInBounds_toArray,List.set_cons_zero,List.set_cons_succ])
     refine wpAnyH_take (i:=9) (oi:=OP.p94) (v:=undef) rfl (by kernel_rfl) (by kernel_rfl) (by kernel_rfl) (fun _ _ _ h=>h) (Or.inr ⟨by rfl,rfl⟩) hHeld ?_
     (try simp only [Act.put,List.setIfInBounds_toArray,List.set_cons_zero,List.set_cons_succ])
     refine wpAnyH_take (i:=10) (oi:=OP.p96) (v:=undef) rfl (by kernel_rfl) (by kernel_rfl) (by kernel_rfl) (fun _ _ _ h=>h) (Or.inr ⟨by rfl,rfl⟩) hHeld ?_
     (try simp only [Act.put,List.setIfInBounds_toArray,List.set_cons_zero,List.set_cons_succ])
     refine wpAnyH_take (i:=11) (oi:=OP.p97) (v:=(.bool false)) rfl (by kernel_rfl) (by kernel_rfl) (by kernel_rfl) (fun _ _ _ h=>h) (Or.inl ⟨by rfl,fun X hX=>rfl⟩) hHeld ?_
     (try simp only [Act.put,List.setIfInBounds_toArray,List.set_cons_zero,List.set_cons_succ])
     refine wpAnyH_ready (rs:=[12]) (by kernel_rfl) (by simp) ?_
     refine (AllReadyH.cons (o:=OP.p98) rfl (fun K hK=>?_) AllReadyH.nil)
     refine wanted_step (by kernel_rfl) ?_
     go_simp
     go_at_call 109
     refine (cH _ hB0).mono ?_
     rintro e' w9 ⟨rfl,hR9,hS9⟩
     dsimp only
     refine hK.out _ _ (hS9) (fun hHeld=>?_)
     (try simp only [Act.put,List.setIfInBounds_toArray,List.set_cons_zero,List.set_cons_succ])
     clear hK K
     refine wpAnyH_done (by kernel_rfl) ?_ _
     clear hHeld
     (try go_wp2_with fail)
     go_end0
     exact ⟨rfl,by simpa [List.append_assoc] using hR9.out.fr.wr,hR9.out.fr.kp⟩
end Go.Proofs.YtmclaaonlhnbmaaGreatDoor.H
