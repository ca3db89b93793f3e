/- What the claim needs of the texts HPart, HLoop, HLines, HPart2. -/
import Derived.Test.YtmclaaonlhnbmaaGreatDoorSOp
import Derived.Test.YtmclaaonlhnbmaaGreatDoorS12
namespace Go.Proofs.YtmclaaonlhnbmaaGreatDoor.H
open Go.RowKit
open Go.Lib hiding intOf
open U S T K
open Go.Proofs.YtmclaaonlhnbmaaGreatDoor.J (arg wtP wtL kids_row kid_at KidAt new_block kids_below Pt.ind wtL_mem wtL_length)
def PartC (d m:Nat) (p:Pt):Prop:=∀ (lv:Value) (cs:Array Value) (W:World) (bs:By) (ind:Nat),Value.agg cs=arg p lv→Wr d m ind bs W→Lies d p lv W→wtP p≤1099511627776→ind+deep p≤1099511627776→bs.length+(showP ind p).length≤140737488355328 →
 Calls Tryz.prog 28 #[.pointer (some ⟨d,0,none⟩),.agg cs] W (Writes d m ind bs W (showP ind p))
structure AllC (d m:Nat) (ks:List Pt):Prop where
 zero:PartC d m zeroP
 one:∀ q∈ks,PartC d m q
theorem AllC.kid {d m:Nat} {ks:List Pt} (h:AllC d m ks) (i:Nat):PartC d m (kidAt ks i):=by
 rcases kidAt_cases ks i with h1|h1
 ·exact h.one _ h1
 ·rw [h1];exact h.zero
theorem tb_eq (x y:By):((bstr x).toList==y)=decide (x=y):=by
 rw [show (bstr x).toList=x from by rw [ByteArray.toList_eq];rfl]
 rw [Bool.eq_iff_iff];simp
theorem kidAt_deep (p:Pt) (i:Nat):deep (kidAt (ksP p) i)≤deep p:=by
 obtain ⟨k,t,f,e,ks⟩:=p
 show deep (kidAt ks i)≤_
 rw [deep]
 rcases kidAt_cases ks i with h|h
 ·have:=deep_mem h;omega
 ·rw [h];show deep (.mk [] [] 0 0 [])≤_;simp [deep,deepL]
theorem kidAt_wtP (p:Pt) (i:Nat):wtP (kidAt (ksP p) i)≤wtP p:=by
 obtain ⟨k,t,f,e,ks⟩:=p
 have:=kidAt_wt (ks:=ks) i
 show wtP (kidAt ks i)≤_
 rw [wtP];omega
set_option maxHeartbeats 4000000 in
set_option maxRecDepth 20000 in
theorem kid_any {d m ind:Nat} {bs:By} {p:Pt} {lv:Value} {cs:Array Value} {W:World} (i:Nat) (hP:PartC d m (kidAt (ksP p) i)) (hcs:Value.agg cs=arg p lv) (h:Wr d m ind bs W) (hv:Lies d p lv W) (hw:wtP p≤1099511627776) (hd:ind+deep p≤1099511627776) (hi:i≤1000) (hl:bs.length+(showP ind (kidAt (ksP p) i)).length≤140737488355328) :
  Calls Tryz.prog 105 #[.pointer (some ⟨d,0,none⟩),.agg cs,.int .i64 i] W (Writes d m ind bs W (showP ind (kidAt (ksP p) i))):=by
 have hwt:=kidAt_wtP p i
 have hdp:=kidAt_deep p i
 have cO:=fun X (hX:Below d W X)=>kidOf_any p lv (fun g=>g<d) X i (hv.later hX) hw hi
 have hfm:∃ kb tb f e a n c,cs=#[.string kb,.string tb,.int .i64 f,.int .i64 e,.slice a n c]:=by
  obtain ⟨k,t,f,e,ks⟩:=p
  obtain ⟨kb,tb,n,a,c,h1,_⟩:=cs_form hcs hv
  exact ⟨kb,tb,f,e,a,n,c,h1⟩
 obtain ⟨kb,tb,f,e,a,n,c,rfl⟩:=hfm
 have HV:=hid hcs
 rw [← hcs] at cO
 obtain ⟨Q,hQ⟩:∃ Q,kidAt (ksP p) i=Q:=⟨_,rfl⟩
 rw [hQ] at hP hwt hdp hl cO ⊢
 clear hcs hQ
 go_enter Tryz.func105,Tryz.ntmps105
 go_upto_region 1 with fail
 obtain ⟨w1,hw1,hq1,hb1,hz1⟩:=new_block W (.cells #[.string kb,.string tb,.int .i64 f,.int .i64 e,.slice a n c] 25)
 rw [hw1]
 have HF1:=hid (Fr.begin h hv hb1 hq1)
 have cK:=cO w1 (hb1.mono (Nat.le_of_lt h.bx.lt))
 obtain ⟨⟨p0,p1,p2,p3,p4⟩,pf⟩:=J.cells_five hq1
 clear hw1 hq1 hb1 hz1 cO hv h
 go_wp2_with fail
 refine cK.mono ?_
 rintro e w2 ⟨lv',rfl,hk2,hb2⟩
 have HF2:=hid (HF1.out.later hb2)
 have cP:=hP lv' (five Q lv').toArray w2 bs ind rfl HF2.out.wr hk2 (by omega) (by omega) hl
 have e5:arg Q lv'=.agg (five Q lv').toArray:=rfl
 rw [e5]
 generalize (five Q lv').toArray=qs at cP ⊢
 clear cK hk2 hb2 p0 p1 p2 p3 p4 pf e5
 go_wp2_with fail
 refine cP.mono ?_
 rintro e w3 ⟨rfl,hw3,hk3⟩
 have HF3:=hid (HF2.out.step hw3 hk3)
 clear cP hw3 hk3
 go_wp2_with fail
 go_end0
 exact ⟨rfl,HF3.out.wr,HF3.out.kp⟩
set_option maxHeartbeats 4000000 in
set_option maxRecDepth 20000 in
theorem held_any {d m ind:Nat} {bs:By} {p:Pt} {lv:Value} {cs:Array Value} {W:World} (br:Bool) (hP:PartC d m p) (hcs:Value.agg cs=arg p lv) (h:Wr d m ind bs W) (hv:Lies d p lv W) (hw:wtP p≤1099511627776) (hd:ind+deep p≤1099511627776) (hl:bs.length+(byt (held br (pcs ind p))).length≤140737488355328) :
  Calls Tryz.prog 109 #[.pointer (some ⟨d,0,none⟩),.agg cs,.bool br] W (Writes d m ind bs W (byt (held br (pcs ind p)))):=by
 have hfm:∃ kb tb f e a n c,cs=#[.string kb,.string tb,.int .i64 f,.int .i64 e,.slice a n c]:=by
  obtain ⟨k,t,f,e,ks⟩:=p
  obtain ⟨kb,tb,n,a,c,h1,_⟩:=cs_form hcs hv
  exact ⟨kb,tb,f,e,a,n,c,h1⟩
 obtain ⟨kb,tb,f,e,a,n,c,rfl⟩:=hfm
 have HV:=hid hcs
 clear hcs
 cases br with
 | false =>
  have hx:byt (held false (pcs ind p))=showP ind p:=rfl
  rw [hx] at hl ⊢
  clear hx
  go_enter Tryz.func109,Tryz.ntmps109
  go_upto_region 1 with fail
  obtain ⟨w1,hw1,hq1,hb1,hz1⟩:=new_block W (.cells #[.string kb,.string tb,.int .i64 f,.int .i64 e,.slice a n c] 25)
  rw [hw1]
  have HF1:=hid (Fr.begin h hv hb1 hq1)
  obtain ⟨⟨p0,p1,p2,p3,p4⟩,pf⟩:=J.cells_five hq1
  clear hw1 hq1 hb1 hz1 hv h
  have cP:=hP lv _ w1 bs ind HV.out HF1.out.wr HF1.out.lies hw hd hl
  go_wp2_with fail
  refine cP.mono ?_
  rintro e w3 ⟨rfl,hw3,hk3⟩
  have HF3:=hid (HF1.out.step hw3 hk3)
  clear cP hw3 hk3 p0 p1 p2 p3 p4 pf
  go_wp2_with fail
  go_end0
  exact ⟨rfl,HF3.out.wr,HF3.out.kp⟩
 | true =>
  have hx:byt (held true (pcs ind p))=[40]++(showP ind p++[41]):=by simp [held,byt_wd,byt_app,byt_nil,showP]
  rw [hx] at hl ⊢
  clear hx
  simp only [List.length_append,List.length_cons,List.length_nil] at hl
  go_enter Tryz.func109,Tryz.ntmps109
  go_upto_region 1 with fail
  obtain ⟨w1,hw1,hq1,hb1,hz1⟩:=new_block W (.cells #[.string kb,.string tb,.int .i64 f,.int .i64 e,.slice a n c] 25)
  rw [hw1]
  have HF1:=hid (Fr.begin h hv hb1 hq1)
  clear hw1 hq1 hb1 hz1 hv h
  have c1:=write1 HF1.out.wr ⟨#[40]⟩ [40] rfl (by simp only [List.length_cons,List.length_nil];omega)
  go_wp2_with fail
  refine c1.mono ?_
  rintro e w2 ⟨rfl,hw2,hk2⟩
  have HF2:=hid (HF1.out.step hw2 hk2)
  clear c1 hw2 hk2
  obtain ⟨⟨p0,p1,p2,p3,p4⟩,pf⟩:=J.cells_five HF2.out.box
  have cP:=hP lv _ w2 _ ind HV.out HF2.out.wr HF2.out.lies hw hd (by (try simp only [List.length_append,List.length_cons,List.length_nil]);omega)
  go_wp2_with fail
  refine cP.mono ?_
  rintro e w3 ⟨rfl,hw3,hk3⟩
  have HF3:=hid (HF2.out.step hw3 hk3)
  clear cP hw3 hk3 p0 p1 p2 p3 p4 pf
  have c2:=write1 HF3.out.wr ⟨#[41]⟩ [41] rfl (by simp only [List.length_append,List.length_cons,List.length_nil];omega)
  go_wp2_with fail
  refine c2.mono ?_
  rintro e w4 ⟨rfl,hw4,hk4⟩
  have HF4:=hid (HF3.out.step hw4 hk4)
  clear c2 hw4 hk4
  go_wp2_with fail
  go_end0
  exact ⟨rfl,by have:=HF4.out.wr;simp only [List.append_assoc] at this ⊢;exact this,HF4.out.kp⟩
set_option maxHeartbeats 4000000 in
set_option maxRecDepth 20000 in
theorem word_any {d m ind:Nat} {bs:By} {k t:By} {f e:Int} {ks:List Pt} {lv:Value} {cs:Array Value} {W:World} (_hA:AllC d m ks) (hcs:Value.agg cs=arg (.mk k t f e ks) lv) (h:Wr d m ind bs W) (hv:Lies d (.mk k t f e ks) lv W) (hw:wtP (.mk k t f e ks)≤1099511627776) (_hd:ind+deep (.mk k t f e ks)≤1099511627776) (hl:bs.length+(t).length≤140737488355328) :
  Calls Tryz.prog 59 #[.pointer (some ⟨d,0,none⟩),.agg cs] W (Writes d m ind bs W (t)):=by
 obtain ⟨kb,tb,n,a,c,rfl,hkb,htb,hn,rfl⟩:=cs_form hcs hv
 have HV:=hid hcs
 have HTB:=hid htb
 have HN:=hid hn
 have hlb:n≤1099511627776:=by rw [← hn];rw [wtP] at hw;exact Nat.le_trans (wtL_length ks) (by omega)
 clear hcs hkb htb
 clear hn
 have hx:t=t:=by simp []
 rw [hx] at hl ⊢
 clear hx
 try simp only [List.length_append,List.length_cons,List.length_nil] at hl
 go_enter Tryz.func59,Tryz.ntmps59
 go_upto_region 1 with fail
 obtain ⟨w1,hw1,hq1,hb1,hz1⟩:=new_block W (.cells #[.string kb,.string tb,.int .i64 f,.int .i64 e,.slice a n c] 25)
 rw [hw1]
 have HF:=hid (Fr.begin h hv hb1 hq1)
 clear hw1 hq1 hb1 hz1 hv h
 obtain ⟨⟨p0,p1,p2,p3,p4⟩,pf⟩:=J.cells_five HF.out.box
 have c:=write1 HF.out.wr tb t (by rw [← HTB.out];rfl) (by (try simp only [List.length_append,List.length_cons,List.length_nil]);omega)
 go_wp2_with fail
 refine c.mono ?_
 rintro e w2 ⟨rfl,hw2,hk2⟩
 replace HF:=hid (HF.out.step hw2 hk2)
 clear c hw2 hk2 p0 p1 p2 p3 p4 pf
 obtain ⟨⟨p0,p1,p2,p3,p4⟩,pf⟩:=J.cells_five HF.out.box
 go_wp2_with fail
 go_end0
 exact ⟨rfl,by have:=HF.out.wr;simpa [List.append_assoc,ksP] using this,HF.out.kp⟩
set_option maxHeartbeats 4000000 in
set_option maxRecDepth 20000 in
theorem named_any {d m ind:Nat} {bs:By} {k t:By} {f e:Int} {ks:List Pt} {lv:Value} {cs:Array Value} {W:World} (hA:AllC d m ks) (hcs:Value.agg cs=arg (.mk k t f e ks) lv) (h:Wr d m ind bs W) (hv:Lies d (.mk k t f e ks) lv W) (hw:wtP (.mk k t f e ks)≤1099511627776) (hd:ind+deep (.mk k t f e ks)≤1099511627776) (hl:bs.length+(byt (bodyP pcs ind t ks .param)).length≤140737488355328) :
  Calls Tryz.prog 58 #[.pointer (some ⟨d,0,none⟩),.agg cs] W (Writes d m ind bs W (byt (bodyP pcs ind t ks .param))):=by
 obtain ⟨kb,tb,n,a,c,rfl,hkb,htb,hn,rfl⟩:=cs_form hcs hv
 have HV:=hid hcs
 have HTB:=hid htb
 have HN:=hid hn
 have hlb:n≤1099511627776:=by rw [← hn];rw [wtP] at hw;exact Nat.le_trans (wtL_length ks) (by omega)
 clear hcs hkb htb
 clear hn
 have hx:byt (bodyP pcs ind t ks .param)=((t++[32])++showP ind (kidAt ks 0)):=by simp [bodyP,byt_wd,byt_sp,showP]
 rw [hx] at hl ⊢
 clear hx
 try simp only [List.length_append,List.length_cons,List.length_nil] at hl
 go_enter Tryz.func58,Tryz.ntmps58
 go_upto_region 1 with fail
 obtain ⟨w1,hw1,hq1,hb1,hz1⟩:=new_block W (.cells #[.string kb,.string tb,.int .i64 f,.int .i64 e,.slice a n c] 25)
 rw [hw1]
 have HF:=hid (Fr.begin h hv hb1 hq1)
 clear hw1 hq1 hb1 hz1 hv h
 obtain ⟨⟨p0,p1,p2,p3,p4⟩,pf⟩:=J.cells_five HF.out.box
 have c:=write2 HF.out.wr tb ⟨#[32]⟩ (t++[32]) (by rw [← HTB.out];rfl) (by (try simp only [List.length_append,List.length_cons,List.length_nil]);omega)
 go_wp2_with fail
 refine c.mono ?_
 rintro e w2 ⟨rfl,hw2,hk2⟩
 replace HF:=hid (HF.out.step hw2 hk2)
 clear c hw2 hk2 p0 p1 p2 p3 p4 pf
 obtain ⟨⟨p0,p1,p2,p3,p4⟩,pf⟩:=J.cells_five HF.out.box
 have c:Calls Tryz.prog 105 _ _ (Writes d m ind _ _ (showP ind (kidAt ks 0))):=kid_any (p:=.mk k t f e ks) 0 (hA.kid 0) HV.out HF.out.wr HF.out.lies hw hd (by decide) (by show _+(showP ind (kidAt ks 0)).length≤_;(try simp only [List.length_append,List.length_cons,List.length_nil]);omega)
 go_wp2_with fail
 refine c.mono ?_
 rintro e w2 ⟨rfl,hw2,hk2⟩
 replace HF:=hid (HF.out.step hw2 hk2)
 clear c hw2 hk2 p0 p1 p2 p3 p4 pf
 obtain ⟨⟨p0,p1,p2,p3,p4⟩,pf⟩:=J.cells_five HF.out.box
 go_wp2_with fail
 go_end0
 exact ⟨rfl,by have:=HF.out.wr;simpa [List.append_assoc,ksP] using this,HF.out.kp⟩
set_option maxHeartbeats 4000000 in
set_option maxRecDepth 20000 in
theorem star_any {d m ind:Nat} {bs:By} {k t:By} {f e:Int} {ks:List Pt} {lv:Value} {cs:Array Value} {W:World} (hA:AllC d m ks) (hcs:Value.agg cs=arg (.mk k t f e ks) lv) (h:Wr d m ind bs W) (hv:Lies d (.mk k t f e ks) lv W) (hw:wtP (.mk k t f e ks)≤1099511627776) (hd:ind+deep (.mk k t f e ks)≤1099511627776) (hl:bs.length+(byt (bodyP pcs ind t ks .star)).length≤140737488355328) :
  Calls Tryz.prog 60 #[.pointer (some ⟨d,0,none⟩),.agg cs] W (Writes d m ind bs W (byt (bodyP pcs ind t ks .star))):=by
 obtain ⟨kb,tb,n,a,c,rfl,hkb,htb,hn,rfl⟩:=cs_form hcs hv
 have HV:=hid hcs
 have HTB:=hid htb
 have HN:=hid hn
 have hlb:n≤1099511627776:=by rw [← hn];rw [wtP] at hw;exact Nat.le_trans (wtL_length ks) (by omega)
 clear hcs hkb htb
 clear hn
 have hx:byt (bodyP pcs ind t ks .star)=([42]++showP ind (kidAt ks 0)):=by simp [bodyP,byt_wd,showP]
 rw [hx] at hl ⊢
 clear hx
 try simp only [List.length_append,List.length_cons,List.length_nil] at hl
 go_enter Tryz.func60,Tryz.ntmps60
 go_upto_region 1 with fail
 obtain ⟨w1,hw1,hq1,hb1,hz1⟩:=new_block W (.cells #[.string kb,.string tb,.int .i64 f,.int .i64 e,.slice a n c] 25)
 rw [hw1]
 have HF:=hid (Fr.begin h hv hb1 hq1)
 clear hw1 hq1 hb1 hz1 hv h
 obtain ⟨⟨p0,p1,p2,p3,p4⟩,pf⟩:=J.cells_five HF.out.box
 have c:=write1 HF.out.wr ⟨#[42]⟩ [42] rfl (by (try simp only [List.length_cons,List.length_nil]);omega)
 go_wp2_with fail
 refine c.mono ?_
 rintro e w2 ⟨rfl,hw2,hk2⟩
 replace HF:=hid (HF.out.step hw2 hk2)
 clear c hw2 hk2 p0 p1 p2 p3 p4 pf
 obtain ⟨⟨p0,p1,p2,p3,p4⟩,pf⟩:=J.cells_five HF.out.box
 have c:Calls Tryz.prog 105 _ _ (Writes d m ind _ _ (showP ind (kidAt ks 0))):=kid_any (p:=.mk k t f e ks) 0 (hA.kid 0) HV.out HF.out.wr HF.out.lies hw hd (by decide) (by show _+(showP ind (kidAt ks 0)).length≤_;(try simp only [List.length_append,List.length_cons,List.length_nil]);omega)
 go_wp2_with fail
 refine c.mono ?_
 rintro e w2 ⟨rfl,hw2,hk2⟩
 replace HF:=hid (HF.out.step hw2 hk2)
 clear c hw2 hk2 p0 p1 p2 p3 p4 pf
 obtain ⟨⟨p0,p1,p2,p3,p4⟩,pf⟩:=J.cells_five HF.out.box
 go_wp2_with fail
 go_end0
 exact ⟨rfl,by have:=HF.out.wr;simpa [List.append_assoc,ksP] using this,HF.out.kp⟩
set_option maxHeartbeats 4000000 in
set_option maxRecDepth 20000 in
theorem slice_any {d m ind:Nat} {bs:By} {k t:By} {f e:Int} {ks:List Pt} {lv:Value} {cs:Array Value} {W:World} (hA:AllC d m ks) (hcs:Value.agg cs=arg (.mk k t f e ks) lv) (h:Wr d m ind bs W) (hv:Lies d (.mk k t f e ks) lv W) (hw:wtP (.mk k t f e ks)≤1099511627776) (hd:ind+deep (.mk k t f e ks)≤1099511627776) (hl:bs.length+(byt (bodyP pcs ind t ks .slice)).length≤140737488355328) :
  Calls Tryz.prog 61 #[.pointer (some ⟨d,0,none⟩),.agg cs] W (Writes d m ind bs W (byt (bodyP pcs ind t ks .slice))):=by
 obtain ⟨kb,tb,n,a,c,rfl,hkb,htb,hn,rfl⟩:=cs_form hcs hv
 have HV:=hid hcs
 have HTB:=hid htb
 have HN:=hid hn
 have hlb:n≤1099511627776:=by rw [← hn];rw [wtP] at hw;exact Nat.le_trans (wtL_length ks) (by omega)
 clear hcs hkb htb
 clear hn
 have hx:byt (bodyP pcs ind t ks .slice)=([91,93]++showP ind (kidAt ks 0)):=by simp [bodyP,byt_wd,showP]
 rw [hx] at hl ⊢
 clear hx
 try simp only [List.length_append,List.length_cons,List.length_nil] at hl
 go_enter Tryz.func61,Tryz.ntmps61
 go_upto_region 1 with fail
 obtain ⟨w1,hw1,hq1,hb1,hz1⟩:=new_block W (.cells #[.string kb,.string tb,.int .i64 f,.int .i64 e,.slice a n c] 25)
 rw [hw1]
 have HF:=hid (Fr.begin h hv hb1 hq1)
 clear hw1 hq1 hb1 hz1 hv h
 obtain ⟨⟨p0,p1,p2,p3,p4⟩,pf⟩:=J.cells_five HF.out.box
 have c:=write1 HF.out.wr ⟨#[91,93]⟩ [91,93] rfl (by (try simp only [List.length_cons,List.length_nil]);omega)
 go_wp2_with fail
 refine c.mono ?_
 rintro e w2 ⟨rfl,hw2,hk2⟩
 replace HF:=hid (HF.out.step hw2 hk2)
 clear c hw2 hk2 p0 p1 p2 p3 p4 pf
 obtain ⟨⟨p0,p1,p2,p3,p4⟩,pf⟩:=J.cells_five HF.out.box
 have c:Calls Tryz.prog 105 _ _ (Writes d m ind _ _ (showP ind (kidAt ks 0))):=kid_any (p:=.mk k t f e ks) 0 (hA.kid 0) HV.out HF.out.wr HF.out.lies hw hd (by decide) (by show _+(showP ind (kidAt ks 0)).length≤_;(try simp only [List.length_append,List.length_cons,List.length_nil]);omega)
 go_wp2_with fail
 refine c.mono ?_
 rintro e w2 ⟨rfl,hw2,hk2⟩
 replace HF:=hid (HF.out.step hw2 hk2)
 clear c hw2 hk2 p0 p1 p2 p3 p4 pf
 obtain ⟨⟨p0,p1,p2,p3,p4⟩,pf⟩:=J.cells_five HF.out.box
 go_wp2_with fail
 go_end0
 exact ⟨rfl,by have:=HF.out.wr;simpa [List.append_assoc,ksP] using this,HF.out.kp⟩
set_option maxHeartbeats 4000000 in
set_option maxRecDepth 20000 in
theorem expr_any {d m ind:Nat} {bs:By} {k t:By} {f e:Int} {ks:List Pt} {lv:Value} {cs:Array Value} {W:World} (hA:AllC d m ks) (hcs:Value.agg cs=arg (.mk k t f e ks) lv) (h:Wr d m ind bs W) (hv:Lies d (.mk k t f e ks) lv W) (hw:wtP (.mk k t f e ks)≤1099511627776) (hd:ind+deep (.mk k t f e ks)≤1099511627776) (hl:bs.length+(byt (bodyP pcs ind t ks .expr)).length≤140737488355328) :
  Calls Tryz.prog 68 #[.pointer (some ⟨d,0,none⟩),.agg cs] W (Writes d m ind bs W (byt (bodyP pcs ind t ks .expr))):=by
 obtain ⟨kb,tb,n,a,c,rfl,hkb,htb,hn,rfl⟩:=cs_form hcs hv
 have HV:=hid hcs
 have HTB:=hid htb
 have HN:=hid hn
 have hlb:n≤1099511627776:=by rw [← hn];rw [wtP] at hw;exact Nat.le_trans (wtL_length ks) (by omega)
 clear hcs hkb htb
 clear hn
 have hx:byt (bodyP pcs ind t ks .expr)=showP ind (kidAt ks 0):=by simp [bodyP,showP]
 rw [hx] at hl ⊢
 clear hx
 try simp only [List.length_append,List.length_cons,List.length_nil] at hl
 go_enter Tryz.func68,Tryz.ntmps68
 go_upto_region 1 with fail
 obtain ⟨w1,hw1,hq1,hb1,hz1⟩:=new_block W (.cells #[.string kb,.string tb,.int .i64 f,.int .i64 e,.slice a n c] 25)
 rw [hw1]
 have HF:=hid (Fr.begin h hv hb1 hq1)
 clear hw1 hq1 hb1 hz1 hv h
 obtain ⟨⟨p0,p1,p2,p3,p4⟩,pf⟩:=J.cells_five HF.out.box
 have c:Calls Tryz.prog 105 _ _ (Writes d m ind _ _ (showP ind (kidAt ks 0))):=kid_any (p:=.mk k t f e ks) 0 (hA.kid 0) HV.out HF.out.wr HF.out.lies hw hd (by decide) (by show _+(showP ind (kidAt ks 0)).length≤_;(try simp only [List.length_append,List.length_cons,List.length_nil]);omega)
 go_wp2_with fail
 refine c.mono ?_
 rintro e w2 ⟨rfl,hw2,hk2⟩
 replace HF:=hid (HF.out.step hw2 hk2)
 clear c hw2 hk2 p0 p1 p2 p3 p4 pf
 obtain ⟨⟨p0,p1,p2,p3,p4⟩,pf⟩:=J.cells_five HF.out.box
 go_wp2_with fail
 go_end0
 exact ⟨rfl,by have:=HF.out.wr;simpa [List.append_assoc,ksP] using this,HF.out.kp⟩
set_option maxHeartbeats 4000000 in
set_option maxRecDepth 20000 in
theorem two_any {d m ind:Nat} {bs:By} {k t:By} {f e:Int} {ks:List Pt} {lv:Value} {cs:Array Value} {W:World} (xb:ByteArray) (x:By) (HXB:Hid (bstr x=xb)) (hA:AllC d m ks) (hcs:Value.agg cs=arg (.mk k t f e ks) lv) (h:Wr d m ind bs W) (hv:Lies d (.mk k t f e ks) lv W) (hw:wtP (.mk k t f e ks)≤1099511627776) (hd:ind+deep (.mk k t f e ks)≤1099511627776) (hl:bs.length+(showP ind (kidAt ks 0)++(x++showP ind (kidAt ks 1))).length≤140737488355328) :
  Calls Tryz.prog 108 #[.pointer (some ⟨d,0,none⟩),.agg cs,.string xb] W (Writes d m ind bs W (showP ind (kidAt ks 0)++(x++showP ind (kidAt ks 1)))):=by
 obtain ⟨kb,tb,n,a,c,rfl,hkb,htb,hn,rfl⟩:=cs_form hcs hv
 have HV:=hid hcs
 have HTB:=hid htb
 have HN:=hid hn
 have hlb:n≤1099511627776:=by rw [← hn];rw [wtP] at hw;exact Nat.le_trans (wtL_length ks) (by omega)
 clear hcs hkb htb
 clear hn
 have hx:showP ind (kidAt ks 0)++(x++showP ind (kidAt ks 1))=(showP ind (kidAt ks 0)++(x++showP ind (kidAt ks 1))):=by simp [showP]
 rw [hx] at hl ⊢
 clear hx
 try simp only [List.length_append] at hl
 go_enter Tryz.func108,Tryz.ntmps108
 go_upto_region 1 with fail
 obtain ⟨w1,hw1,hq1,hb1,hz1⟩:=new_block W (.cells #[.string kb,.string tb,.int .i64 f,.int .i64 e,.slice a n c] 25)
 rw [hw1]
 have HF:=hid (Fr.begin h hv hb1 hq1)
 clear hw1 hq1 hb1 hz1 hv h
 obtain ⟨⟨p0,p1,p2,p3,p4⟩,pf⟩:=J.cells_five HF.out.box
 have c:Calls Tryz.prog 105 _ _ (Writes d m ind _ _ (showP ind (kidAt ks 0))):=kid_any (p:=.mk k t f e ks) 0 (hA.kid 0) HV.out HF.out.wr HF.out.lies hw hd (by decide) (by show _+(showP ind (kidAt ks 0)).length≤_;(try simp only [List.length_append,List.length_cons,List.length_nil]);omega)
 go_wp2_with fail
 refine c.mono ?_
 rintro e w2 ⟨rfl,hw2,hk2⟩
 replace HF:=hid (HF.out.step hw2 hk2)
 clear c hw2 hk2 p0 p1 p2 p3 p4 pf
 obtain ⟨⟨p0,p1,p2,p3,p4⟩,pf⟩:=J.cells_five HF.out.box
 have c:=write1 HF.out.wr xb x (by rw [← HXB.out];rfl) (by (try simp only [List.length_append]);omega)
 go_wp2_with fail
 refine c.mono ?_
 rintro e w2 ⟨rfl,hw2,hk2⟩
 replace HF:=hid (HF.out.step hw2 hk2)
 clear c hw2 hk2 p0 p1 p2 p3 p4 pf
 obtain ⟨⟨p0,p1,p2,p3,p4⟩,pf⟩:=J.cells_five HF.out.box
 have c:Calls Tryz.prog 105 _ _ (Writes d m ind _ _ (showP ind (kidAt ks 1))):=kid_any (p:=.mk k t f e ks) 1 (hA.kid 1) HV.out HF.out.wr HF.out.lies hw hd (by decide) (by show _+(showP ind (kidAt ks 1)).length≤_;(try simp only [List.length_append]);omega)
 go_wp2_with fail
 refine c.mono ?_
 rintro e w2 ⟨rfl,hw2,hk2⟩
 replace HF:=hid (HF.out.step hw2 hk2)
 clear c hw2 hk2 p0 p1 p2 p3 p4 pf
 obtain ⟨⟨p0,p1,p2,p3,p4⟩,pf⟩:=J.cells_five HF.out.box
 go_wp2_with fail
 go_end0
 exact ⟨rfl,by have:=HF.out.wr;simpa [List.append_assoc,ksP] using this,HF.out.kp⟩
set_option maxHeartbeats 4000000 in
set_option maxRecDepth 20000 in
theorem assign_any {d m ind:Nat} {bs:By} {k t:By} {f e:Int} {ks:List Pt} {lv:Value} {cs:Array Value} {W:World} (hA:AllC d m ks) (hcs:Value.agg cs=arg (.mk k t f e ks) lv) (h:Wr d m ind bs W) (hv:Lies d (.mk k t f e ks) lv W) (hw:wtP (.mk k t f e ks)≤1099511627776) (hd:ind+deep (.mk k t f e ks)≤1099511627776) (hl:bs.length+(byt (bodyP pcs ind t ks .assign)).length≤140737488355328) :
  Calls Tryz.prog 66 #[.pointer (some ⟨d,0,none⟩),.agg cs] W (Writes d m ind bs W (byt (bodyP pcs ind t ks .assign))):=by
 obtain ⟨kb,tb,n,a,c,rfl,hkb,htb,hn,rfl⟩:=cs_form hcs hv
 have HV:=hid hcs
 have HTB:=hid htb
 have HN:=hid hn
 have hlb:n≤1099511627776:=by rw [← hn];rw [wtP] at hw;exact Nat.le_trans (wtL_length ks) (by omega)
 clear hcs hkb htb
 clear hn
 have hx:byt (bodyP pcs ind t ks .assign)=(showP ind (kidAt ks 0)++([32,61,32]++showP ind (kidAt ks 1))):=by simp [bodyP,byt_app,byt_wd,byt_sp,showP]
 rw [hx] at hl ⊢
 clear hx
 try simp only [List.length_append,List.length_cons,List.length_nil] at hl
 go_enter Tryz.func66,Tryz.ntmps66
 go_upto_region 1 with fail
 obtain ⟨w1,hw1,hq1,hb1,hz1⟩:=new_block W (.cells #[.string kb,.string tb,.int .i64 f,.int .i64 e,.slice a n c] 25)
 rw [hw1]
 have HF:=hid (Fr.begin h hv hb1 hq1)
 clear hw1 hq1 hb1 hz1 hv h
 obtain ⟨⟨p0,p1,p2,p3,p4⟩,pf⟩:=J.cells_five HF.out.box
 have c:=two_any ⟨#[32,61,32]⟩ [32,61,32] (hid rfl) hA HV.out HF.out.wr HF.out.lies hw hd (by (try simp only [List.length_append,List.length_cons,List.length_nil]);omega)
 go_wp2_with fail
 refine c.mono ?_
 rintro e w2 ⟨rfl,hw2,hk2⟩
 replace HF:=hid (HF.out.step hw2 hk2)
 clear c hw2 hk2 p0 p1 p2 p3 p4 pf
 obtain ⟨⟨p0,p1,p2,p3,p4⟩,pf⟩:=J.cells_five HF.out.box
 go_wp2_with fail
 go_end0
 exact ⟨rfl,by have:=HF.out.wr;simpa [List.append_assoc,ksP] using this,HF.out.kp⟩
set_option maxHeartbeats 4000000 in
set_option maxRecDepth 20000 in
theorem define_any {d m ind:Nat} {bs:By} {k t:By} {f e:Int} {ks:List Pt} {lv:Value} {cs:Array Value} {W:World} (hA:AllC d m ks) (hcs:Value.agg cs=arg (.mk k t f e ks) lv) (h:Wr d m ind bs W) (hv:Lies d (.mk k t f e ks) lv W) (hw:wtP (.mk k t f e ks)≤1099511627776) (hd:ind+deep (.mk k t f e ks)≤1099511627776) (hl:bs.length+(byt (bodyP pcs ind t ks .define)).length≤140737488355328) :
  Calls Tryz.prog 67 #[.pointer (some ⟨d,0,none⟩),.agg cs] W (Writes d m ind bs W (byt (bodyP pcs ind t ks .define))):=by
 obtain ⟨kb,tb,n,a,c,rfl,hkb,htb,hn,rfl⟩:=cs_form hcs hv
 have HV:=hid hcs
 have HTB:=hid htb
 have HN:=hid hn
 have hlb:n≤1099511627776:=by rw [← hn];rw [wtP] at hw;exact Nat.le_trans (wtL_length ks) (by omega)
 clear hcs hkb htb
 clear hn
 have hx:byt (bodyP pcs ind t ks .define)=(showP ind (kidAt ks 0)++([32,58,61,32]++showP ind (kidAt ks 1))):=by simp [bodyP,byt_app,byt_wd,byt_sp,showP]
 rw [hx] at hl ⊢
 clear hx
 try simp only [List.length_append,List.length_cons,List.length_nil] at hl
 go_enter Tryz.func67,Tryz.ntmps67
 go_upto_region 1 with fail
 obtain ⟨w1,hw1,hq1,hb1,hz1⟩:=new_block W (.cells #[.string kb,.string tb,.int .i64 f,.int .i64 e,.slice a n c] 25)
 rw [hw1]
 have HF:=hid (Fr.begin h hv hb1 hq1)
 clear hw1 hq1 hb1 hz1 hv h
 obtain ⟨⟨p0,p1,p2,p3,p4⟩,pf⟩:=J.cells_five HF.out.box
 have c:=two_any ⟨#[32,58,61,32]⟩ [32,58,61,32] (hid rfl) hA HV.out HF.out.wr HF.out.lies hw hd (by (try simp only [List.length_append,List.length_cons,List.length_nil]);omega)
 go_wp2_with fail
 refine c.mono ?_
 rintro e w2 ⟨rfl,hw2,hk2⟩
 replace HF:=hid (HF.out.step hw2 hk2)
 clear c hw2 hk2 p0 p1 p2 p3 p4 pf
 obtain ⟨⟨p0,p1,p2,p3,p4⟩,pf⟩:=J.cells_five HF.out.box
 go_wp2_with fail
 go_end0
 exact ⟨rfl,by have:=HF.out.wr;simpa [List.append_assoc,ksP] using this,HF.out.kp⟩
set_option maxHeartbeats 4000000 in
set_option maxRecDepth 20000 in
theorem for_any {d m ind:Nat} {bs:By} {k t:By} {f e:Int} {ks:List Pt} {lv:Value} {cs:Array Value} {W:World} (hA:AllC d m ks) (hcs:Value.agg cs=arg (.mk k t f e ks) lv) (h:Wr d m ind bs W) (hv:Lies d (.mk k t f e ks) lv W) (hw:wtP (.mk k t f e ks)≤1099511627776) (hd:ind+deep (.mk k t f e ks)≤1099511627776) (hl:bs.length+(byt (bodyP pcs ind t ks .for')).length≤140737488355328) :
  Calls Tryz.prog 65 #[.pointer (some ⟨d,0,none⟩),.agg cs] W (Writes d m ind bs W (byt (bodyP pcs ind t ks .for'))):=by
 obtain ⟨kb,tb,n,a,c,rfl,hkb,htb,hn,rfl⟩:=cs_form hcs hv
 have HV:=hid hcs
 have HTB:=hid htb
 have HN:=hid hn
 have hlb:n≤1099511627776:=by rw [← hn];rw [wtP] at hw;exact Nat.le_trans (wtL_length ks) (by omega)
 clear hcs hkb htb
 clear hn
 have hx:byt (bodyP pcs ind t ks .for')=([102,111,114,32]++(showP ind (kidAt ks 0)++([32]++showP ind (kidAt ks 1)))):=by simp [bodyP,byt_app,byt_wd,byt_sp,showP,kFor]
 rw [hx] at hl ⊢
 clear hx
 try simp only [List.length_append,List.length_cons,List.length_nil] at hl
 go_enter Tryz.func65,Tryz.ntmps65
 go_upto_region 1 with fail
 obtain ⟨w1,hw1,hq1,hb1,hz1⟩:=new_block W (.cells #[.string kb,.string tb,.int .i64 f,.int .i64 e,.slice a n c] 25)
 rw [hw1]
 have HF:=hid (Fr.begin h hv hb1 hq1)
 clear hw1 hq1 hb1 hz1 hv h
 obtain ⟨⟨p0,p1,p2,p3,p4⟩,pf⟩:=J.cells_five HF.out.box
 have c:=write1 HF.out.wr ⟨#[102,111,114,32]⟩ [102,111,114,32] rfl (by (try simp only [List.length_cons,List.length_nil]);omega)
 go_wp2_with fail
 refine c.mono ?_
 rintro e w2 ⟨rfl,hw2,hk2⟩
 replace HF:=hid (HF.out.step hw2 hk2)
 clear c hw2 hk2 p0 p1 p2 p3 p4 pf
 obtain ⟨⟨p0,p1,p2,p3,p4⟩,pf⟩:=J.cells_five HF.out.box
 have c:=two_any ⟨#[32]⟩ [32] (hid rfl) hA HV.out HF.out.wr HF.out.lies hw hd (by (try simp only [List.length_append,List.length_cons,List.length_nil]);omega)
 go_wp2_with fail
 refine c.mono ?_
 rintro e w2 ⟨rfl,hw2,hk2⟩
 replace HF:=hid (HF.out.step hw2 hk2)
 clear c hw2 hk2 p0 p1 p2 p3 p4 pf
 obtain ⟨⟨p0,p1,p2,p3,p4⟩,pf⟩:=J.cells_five HF.out.box
 go_wp2_with fail
 go_end0
 exact ⟨rfl,by have:=HF.out.wr;simpa [List.append_assoc,ksP] using this,HF.out.kp⟩
set_option maxHeartbeats 4000000 in
set_option maxRecDepth 20000 in
theorem var_any {d m ind:Nat} {bs:By} {k t:By} {f e:Int} {ks:List Pt} {lv:Value} {cs:Array Value} {W:World} (hA:AllC d m ks) (hcs:Value.agg cs=arg (.mk k t f e ks) lv) (h:Wr d m ind bs W) (hv:Lies d (.mk k t f e ks) lv W) (hw:wtP (.mk k t f e ks)≤1099511627776) (hd:ind+deep (.mk k t f e ks)≤1099511627776) (hl:bs.length+(byt (bodyP pcs ind t ks .var)).length≤140737488355328) :
  Calls Tryz.prog 56 #[.pointer (some ⟨d,0,none⟩),.agg cs] W (Writes d m ind bs W (byt (bodyP pcs ind t ks .var))):=by
 obtain ⟨kb,tb,n,a,c,rfl,hkb,htb,hn,rfl⟩:=cs_form hcs hv
 have HV:=hid hcs
 have HTB:=hid htb
 have HN:=hid hn
 have hlb:n≤1099511627776:=by rw [← hn];rw [wtP] at hw;exact Nat.le_trans (wtL_length ks) (by omega)
 clear hcs hkb htb
 clear hn
 have hx:byt (bodyP pcs ind t ks .var)=([118,97,114,32]++byt (bodyP pcs ind t ks .param)):=by simp [bodyP,byt_wd,byt_sp,kVar]
 rw [hx] at hl ⊢
 clear hx
 try simp only [List.length_append,List.length_cons,List.length_nil] at hl
 go_enter Tryz.func56,Tryz.ntmps56
 go_upto_region 1 with fail
 obtain ⟨w1,hw1,hq1,hb1,hz1⟩:=new_block W (.cells #[.string kb,.string tb,.int .i64 f,.int .i64 e,.slice a n c] 25)
 rw [hw1]
 have HF:=hid (Fr.begin h hv hb1 hq1)
 clear hw1 hq1 hb1 hz1 hv h
 obtain ⟨⟨p0,p1,p2,p3,p4⟩,pf⟩:=J.cells_five HF.out.box
 have c:=write1 HF.out.wr ⟨#[118,97,114,32]⟩ [118,97,114,32] rfl (by (try simp only [List.length_cons,List.length_nil]);omega)
 go_wp2_with fail
 refine c.mono ?_
 rintro e w2 ⟨rfl,hw2,hk2⟩
 replace HF:=hid (HF.out.step hw2 hk2)
 clear c hw2 hk2 p0 p1 p2 p3 p4 pf
 obtain ⟨⟨p0,p1,p2,p3,p4⟩,pf⟩:=J.cells_five HF.out.box
 have c:=named_any hA HV.out HF.out.wr HF.out.lies hw hd (by (try simp only [List.length_append,List.length_cons,List.length_nil]);omega)
 go_wp2_with fail
 refine c.mono ?_
 rintro e w2 ⟨rfl,hw2,hk2⟩
 replace HF:=hid (HF.out.step hw2 hk2)
 clear c hw2 hk2 p0 p1 p2 p3 p4 pf
 obtain ⟨⟨p0,p1,p2,p3,p4⟩,pf⟩:=J.cells_five HF.out.box
 go_wp2_with fail
 go_end0
 exact ⟨rfl,by have:=HF.out.wr;simpa [List.append_assoc,ksP] using this,HF.out.kp⟩
set_option maxHeartbeats 4000000 in
set_option maxRecDepth 20000 in
theorem ret_any {d m ind:Nat} {bs:By} {k t:By} {f e:Int} {ks:List Pt} {lv:Value} {cs:Array Value} {W:World} (hA:AllC d m ks) (hcs:Value.agg cs=arg (.mk k t f e ks) lv) (h:Wr d m ind bs W) (hv:Lies d (.mk k t f e ks) lv W) (hw:wtP (.mk k t f e ks)≤1099511627776) (hd:ind+deep (.mk k t f e ks)≤1099511627776) (hl:bs.length+(byt (bodyP pcs ind t ks .ret)).length≤140737488355328) :
  Calls Tryz.prog 63 #[.pointer (some ⟨d,0,none⟩),.agg cs] W (Writes d m ind bs W (byt (bodyP pcs ind t ks .ret))):=by
 obtain ⟨kb,tb,n,a,c,rfl,hkb,htb,hn,rfl⟩:=cs_form hcs hv
 have HV:=hid hcs
 have HTB:=hid htb
 have HN:=hid hn
 have hlb:n≤1099511627776:=by rw [← hn];rw [wtP] at hw;exact Nat.le_trans (wtL_length ks) (by omega)
 clear hcs hkb htb
 by_cases hks:ks=[]
 ·obtain rfl:n=0:=by rw [← hn,hks];rfl
  have hx:byt (bodyP pcs ind t ks .ret)=[114,101,116,117,114,110]:=by simp [bodyP,byt_wd,byt_nil,kReturn,hks]
  rw [hx] at hl ⊢
  clear hx
  try simp only [List.length_cons,List.length_nil] at hl
  clear hn hks
  go_enter Tryz.func63,Tryz.ntmps63
  go_upto_region 1 with fail
  obtain ⟨w1,hw1,hq1,hb1,hz1⟩:=new_block W (.cells #[.string kb,.string tb,.int .i64 f,.int .i64 e,.slice a 0 c] 25)
  rw [hw1]
  have HF:=hid (Fr.begin h hv hb1 hq1)
  clear hw1 hq1 hb1 hz1 hv h
  obtain ⟨⟨p0,p1,p2,p3,p4⟩,pf⟩:=J.cells_five HF.out.box
  have c:=write1 HF.out.wr ⟨#[114,101,116,117,114,110]⟩ [114,101,116,117,114,110] rfl (by (try simp only [List.length_cons,List.length_nil]);omega)
  go_wp2_with fail
  refine c.mono ?_
  rintro e w2 ⟨rfl,hw2,hk2⟩
  replace HF:=hid (HF.out.step hw2 hk2)
  clear c hw2 hk2 p0 p1 p2 p3 p4 pf
  obtain ⟨⟨p0,p1,p2,p3,p4⟩,pf⟩:=J.cells_five HF.out.box
  go_wp2_with fail
  go_end0
  exact ⟨rfl,by have:=HF.out.wr;simpa [List.append_assoc,ksP] using this,HF.out.kp⟩
 ·have hn0:0<n:=by rw [← hn];exact List.length_pos_iff.2 hks
  have hx:byt (bodyP pcs ind t ks .ret)=([114,101,116,117,114,110]++([32]++showP ind (kidAt ks 0))):=by simp [bodyP,byt_wd,byt_sp,showP,kReturn,hks]
  rw [hx] at hl ⊢
  clear hx
  try simp only [List.length_append,List.length_cons,List.length_nil] at hl
  clear hn hks
  go_enter Tryz.func63,Tryz.ntmps63
  go_upto_region 1 with fail
  obtain ⟨w1,hw1,hq1,hb1,hz1⟩:=new_block W (.cells #[.string kb,.string tb,.int .i64 f,.int .i64 e,.slice a n c] 25)
  rw [hw1]
  have HF:=hid (Fr.begin h hv hb1 hq1)
  clear hw1 hq1 hb1 hz1 hv h
  obtain ⟨⟨p0,p1,p2,p3,p4⟩,pf⟩:=J.cells_five HF.out.box
  have c:=write1 HF.out.wr ⟨#[114,101,116,117,114,110]⟩ [114,101,116,117,114,110] rfl (by (try simp only [List.length_cons,List.length_nil]);omega)
  go_wp2_with fail
  refine c.mono ?_
  rintro e w2 ⟨rfl,hw2,hk2⟩
  replace HF:=hid (HF.out.step hw2 hk2)
  clear c hw2 hk2 p0 p1 p2 p3 p4 pf
  obtain ⟨⟨p0,p1,p2,p3,p4⟩,pf⟩:=J.cells_five HF.out.box
  have c:=write1 HF.out.wr ⟨#[32]⟩ [32] rfl (by (try simp only [List.length_append,List.length_cons,List.length_nil]);omega)
  go_wp2_with fail
  refine c.mono ?_
  rintro e w2 ⟨rfl,hw2,hk2⟩
  replace HF:=hid (HF.out.step hw2 hk2)
  clear c hw2 hk2 p0 p1 p2 p3 p4 pf
  obtain ⟨⟨p0,p1,p2,p3,p4⟩,pf⟩:=J.cells_five HF.out.box
  have c:Calls Tryz.prog 105 _ _ (Writes d m ind _ _ (showP ind (kidAt ks 0))):=kid_any (p:=.mk k t f e ks) 0 (hA.kid 0) HV.out HF.out.wr HF.out.lies hw hd (by decide) (by show _+(showP ind (kidAt ks 0)).length≤_;(try simp only [List.length_append,List.length_cons,List.length_nil]);omega)
  go_wp2_with fail
  refine c.mono ?_
  rintro e w2 ⟨rfl,hw2,hk2⟩
  replace HF:=hid (HF.out.step hw2 hk2)
  clear c hw2 hk2 p0 p1 p2 p3 p4 pf
  obtain ⟨⟨p0,p1,p2,p3,p4⟩,pf⟩:=J.cells_five HF.out.box
  go_wp2_with fail
  go_end0
  exact ⟨rfl,by have:=HF.out.wr;simpa [List.append_assoc,ksP] using this,HF.out.kp⟩
set_option maxHeartbeats 4000000 in
set_option maxRecDepth 20000 in
theorem if_any {d m ind:Nat} {bs:By} {k t:By} {f e:Int} {ks:List Pt} {lv:Value} {cs:Array Value} {W:World} (hA:AllC d m ks) (hcs:Value.agg cs=arg (.mk k t f e ks) lv) (h:Wr d m ind bs W) (hv:Lies d (.mk k t f e ks) lv W) (hw:wtP (.mk k t f e ks)≤1099511627776) (hd:ind+deep (.mk k t f e ks)≤1099511627776) (hl:bs.length+(byt (bodyP pcs ind t ks .if')).length≤140737488355328) :
  Calls Tryz.prog 64 #[.pointer (some ⟨d,0,none⟩),.agg cs] W (Writes d m ind bs W (byt (bodyP pcs ind t ks .if'))):=by
 obtain ⟨kb,tb,n,a,c,rfl,hkb,htb,hn,rfl⟩:=cs_form hcs hv
 have HV:=hid hcs
 have HTB:=hid htb
 have HN:=hid hn
 have hlb:n≤1099511627776:=by rw [← hn];rw [wtP] at hw;exact Nat.le_trans (wtL_length ks) (by omega)
 clear hcs hkb htb
 by_cases hks:2<ks.length
 ·have hn0:2<n:=by rw [← hn];exact hks
  have hx:byt (bodyP pcs ind t ks .if')=([105,102,32]++((showP ind (kidAt ks 0)++([32]++showP ind (kidAt ks 1)))++([32,101,108,115,101,32]++showP ind (kidAt ks 2)))):=by simp [bodyP,byt_app,byt_wd,byt_sp,showP,kIf,kElse,hks]
  rw [hx] at hl ⊢
  clear hx
  try simp only [List.length_append,List.length_cons,List.length_nil] at hl
  clear hn hks
  go_enter Tryz.func64,Tryz.ntmps64
  go_upto_region 1 with fail
  obtain ⟨w1,hw1,hq1,hb1,hz1⟩:=new_block W (.cells #[.string kb,.string tb,.int .i64 f,.int .i64 e,.slice a n c] 25)
  rw [hw1]
  have HF:=hid (Fr.begin h hv hb1 hq1)
  clear hw1 hq1 hb1 hz1 hv h
  obtain ⟨⟨p0,p1,p2,p3,p4⟩,pf⟩:=J.cells_five HF.out.box
  have c:=write1 HF.out.wr ⟨#[105,102,32]⟩ [105,102,32] rfl (by (try simp only [List.length_cons,List.length_nil]);omega)
  go_wp2_with fail
  refine c.mono ?_
  rintro e w2 ⟨rfl,hw2,hk2⟩
  replace HF:=hid (HF.out.step hw2 hk2)
  clear c hw2 hk2 p0 p1 p2 p3 p4 pf
  obtain ⟨⟨p0,p1,p2,p3,p4⟩,pf⟩:=J.cells_five HF.out.box
  have c:=two_any ⟨#[32]⟩ [32] (hid rfl) hA HV.out HF.out.wr HF.out.lies hw hd (by (try simp only [List.length_append,List.length_cons,List.length_nil]);omega)
  go_wp2_with fail
  refine c.mono ?_
  rintro e w2 ⟨rfl,hw2,hk2⟩
  replace HF:=hid (HF.out.step hw2 hk2)
  clear c hw2 hk2 p0 p1 p2 p3 p4 pf
  obtain ⟨⟨p0,p1,p2,p3,p4⟩,pf⟩:=J.cells_five HF.out.box
  have c:=write1 HF.out.wr ⟨#[32,101,108,115,101,32]⟩ [32,101,108,115,101,32] rfl (by (try simp only [List.length_append,List.length_cons,List.length_nil]);omega)
  go_wp2_with fail
  refine c.mono ?_
  rintro e w2 ⟨rfl,hw2,hk2⟩
  replace HF:=hid (HF.out.step hw2 hk2)
  clear c hw2 hk2 p0 p1 p2 p3 p4 pf
  obtain ⟨⟨p0,p1,p2,p3,p4⟩,pf⟩:=J.cells_five HF.out.box
  have c:Calls Tryz.prog 105 _ _ (Writes d m ind _ _ (showP ind (kidAt ks 2))):=kid_any (p:=.mk k t f e ks) 2 (hA.kid 2) HV.out HF.out.wr HF.out.lies hw hd (by decide) (by show _+(showP ind (kidAt ks 2)).length≤_;(try simp only [List.length_append,List.length_cons,List.length_nil]);omega)
  go_wp2_with fail
  refine c.mono ?_
  rintro e w2 ⟨rfl,hw2,hk2⟩
  replace HF:=hid (HF.out.step hw2 hk2)
  clear c hw2 hk2 p0 p1 p2 p3 p4 pf
  obtain ⟨⟨p0,p1,p2,p3,p4⟩,pf⟩:=J.cells_five HF.out.box
  go_wp2_with fail
  go_end0
  exact ⟨rfl,by have:=HF.out.wr;simpa [List.append_assoc,ksP] using this,HF.out.kp⟩
 ·have hn0:¬ 2<n:=by rw [← hn];exact hks
  have hx:byt (bodyP pcs ind t ks .if')=([105,102,32]++(showP ind (kidAt ks 0)++([32]++showP ind (kidAt ks 1)))):=by simp [bodyP,byt_app,byt_wd,byt_sp,showP,kIf,hks]
  rw [hx] at hl ⊢
  clear hx
  try simp only [List.length_append,List.length_cons,List.length_nil] at hl
  clear hn hks
  go_enter Tryz.func64,Tryz.ntmps64
  go_upto_region 1 with fail
  obtain ⟨w1,hw1,hq1,hb1,hz1⟩:=new_block W (.cells #[.string kb,.string tb,.int .i64 f,.int .i64 e,.slice a n c] 25)
  rw [hw1]
  have HF:=hid (Fr.begin h hv hb1 hq1)
  clear hw1 hq1 hb1 hz1 hv h
  obtain ⟨⟨p0,p1,p2,p3,p4⟩,pf⟩:=J.cells_five HF.out.box
  have c:=write1 HF.out.wr ⟨#[105,102,32]⟩ [105,102,32] rfl (by (try simp only [List.length_cons,List.length_nil]);omega)
  go_wp2_with fail
  refine c.mono ?_
  rintro e w2 ⟨rfl,hw2,hk2⟩
  replace HF:=hid (HF.out.step hw2 hk2)
  clear c hw2 hk2 p0 p1 p2 p3 p4 pf
  obtain ⟨⟨p0,p1,p2,p3,p4⟩,pf⟩:=J.cells_five HF.out.box
  have c:=two_any ⟨#[32]⟩ [32] (hid rfl) hA HV.out HF.out.wr HF.out.lies hw hd (by (try simp only [List.length_append,List.length_cons,List.length_nil]);omega)
  go_wp2_with fail
  refine c.mono ?_
  rintro e w2 ⟨rfl,hw2,hk2⟩
  replace HF:=hid (HF.out.step hw2 hk2)
  clear c hw2 hk2 p0 p1 p2 p3 p4 pf
  obtain ⟨⟨p0,p1,p2,p3,p4⟩,pf⟩:=J.cells_five HF.out.box
  go_wp2_with fail
  go_end0
  exact ⟨rfl,by have:=HF.out.wr;simpa [List.append_assoc,ksP] using this,HF.out.kp⟩
set_option maxHeartbeats 4000000 in
set_option maxRecDepth 20000 in
theorem operand_any {d m ind:Nat} {bs:By} {p:Pt} {lv:Value} {cs:Array Value} {W:World} (hP:PartC d m p) (hcs:Value.agg cs=arg p lv) (h:Wr d m ind bs W) (hv:Lies d p lv W) (hw:wtP p≤1099511627776) (hd:ind+deep p≤1099511627776) (hl:bs.length+(byt (held (oHeld p) (pcs ind p))).length≤140737488355328) :
  Calls Tryz.prog 113 #[.pointer (some ⟨d,0,none⟩),.agg cs] W (Writes d m ind bs W (byt (held (oHeld p) (pcs ind p)))):=by
 have cH:=fun X (h:Wr d m ind bs X) (hv:Lies d p lv X)=>held_any (oHeld p) hP hcs h hv hw hd hl
 obtain ⟨x,hx⟩:∃ x,byt (held (oHeld p) (pcs ind p))=x:=⟨_,rfl⟩
 rw [hx] at cH ⊢
 have hfm:∃ k tb f e a n c,cs=#[.string (bstr k),.string tb,.int .i64 f,.int .i64 e,.slice a n c]∧kindP p=k:=by
  obtain ⟨k,t,f,e,ks⟩:=p
  obtain ⟨kb,tb,n,a,c,h1,h2,_⟩:=cs_form hcs hv
  exact ⟨k,tb,f,e,a,n,c,by rw [h1,h2],rfl⟩
 obtain ⟨k,tb,f,e,a,n,c,rfl,hk⟩:=hfm
 have ho:oHeld p=(decide (k=kBinary)||decide (k=kUnary)):=by unfold oHeld;rw [hk]
 rw [ho] at cH
 have e1:((bstr k).toList==kBinary)=decide (k=kBinary):=tb_eq k kBinary
 have e2:((bstr k).toList==kUnary)=decide (k=kUnary):=tb_eq k kUnary
 obtain ⟨kb,hkb⟩:∃ x,bstr k=x:=⟨_,rfl⟩
 rw [hkb] at cH e1 e2 ⊢
 have HCH:=hid cH
 clear hcs hx hk ho hkb cH hl
 obtain ⟨b1,hb1⟩:∃ b,decide (k=kBinary)=b:=⟨_,rfl⟩
 obtain ⟨b2,hb2⟩:∃ b,decide (k=kUnary)=b:=⟨_,rfl⟩
 rw [hb1] at e1 HCH
 rw [hb2] at e2 HCH
 clear hb1 hb2
 unfold kBinary at e1
 unfold kUnary at e2
 go_enter Tryz.func113,Tryz.ntmps113
 go_upto_region 1 with fail
 obtain ⟨w1,hw1,hq1,hbl1,hz1⟩:=new_block W (.cells #[.string kb,.string tb,.int .i64 f,.int .i64 e,.slice a n c] 25)
 rw [hw1]
 have HF1:=hid (Fr.begin h hv hbl1 hq1)
 obtain ⟨⟨p0,p1,p2,p3,p4⟩,pf⟩:=J.cells_five hq1
 clear hw1 hq1 hbl1 hz1 hv h
 cases b1
 all_goals cases b2
 all_goals have cP:=HCH.out w1 HF1.out.wr HF1.out.lies
 all_goals simp only [Bool.or_true,Bool.or_false,Bool.or_self] at cP
 all_goals go_wp2_with fail
 all_goals refine cP.mono ?_
 all_goals rintro e w3 ⟨rfl,hw3,hk3⟩
 all_goals have HF3:=hid (HF1.out.step hw3 hk3)
 all_goals clear cP hw3 hk3 p0 p1 p2 p3 p4 pf
 all_goals go_wp2_with fail
 all_goals go_end0
 all_goals exact ⟨rfl,HF3.out.wr,HF3.out.kp⟩
end Go.Proofs.YtmclaaonlhnbmaaGreatDoor.H
namespace Go.Proofs.YtmclaaonlhnbmaaGreatDoor.H
open Go.RowKit
open Go.Lib hiding intOf
open U S T K
open Go.Proofs.YtmclaaonlhnbmaaGreatDoor.J (arg wtP wtL kids_row kid_at KidAt new_block kids_below Pt.ind wtL_mem wtL_length)
theorem commas_app (a b:List (List Pc)):∃ r,commas (a++b)=commas a++r:=by
 cases a with
 | nil=>exact ⟨commas b,rfl⟩
 | cons x r=>exact ⟨(b.map fun y=>.wd 4 [44] :: .sp [32] :: y).flatten,by simp [commas]⟩
theorem commas_snoc (a:List (List Pc)) (x:List Pc):byt (commas (a++[x]))=byt (commas a)++((if a.length=0 then [] else [44,32])++byt x):=by
 cases a with
 | nil=>simp [commas,byt_nil]
 | cons y r=>simp [commas,byt_app,byt_wd,byt_sp]
theorem commas_take (l:List (List Pc)) (i:Nat) (h:i<l.length):byt (commas (l.take (i+1)))=byt (commas (l.take i))++((if i=0 then [] else [44,32])++byt l[i]):=by
 rw [List.take_succ_eq_append_getElem h,commas_snoc]
 have e:(l.take i).length=i:=by rw [List.length_take];omega
 rw [e]
theorem commas_take_len (l:List (List Pc)) (i:Nat):(byt (commas (l.take i))).length≤(byt (commas l)).length:=by
 obtain ⟨r,hr⟩:=commas_app (l.take i) (l.drop i)
 rw [List.take_append_drop] at hr
 rw [hr,byt_app,List.length_append];omega
theorem Lies.row {d:Nat} {k t:By} {f e:Int} {l:List Pt} {a:Option Addr} {n c:Nat} {W:World} (h:Lies d (.mk k t f e l) (.slice a n c) W) {i:Nat} (hi:i<l.length) :
  ∃ g off,a=some ⟨g,off,none⟩∧∃ k t f e ks a' c',KidAt W (fun g=>g<d) l[i] g (off+i*5) k t f e ks a' c':=by
 obtain ⟨_,_,h2⟩:=kids_row h
 obtain ⟨g,off,xs,ha,_,hc,hp⟩:=h2.resolve_left (fun h=>by rw [h] at hi;exact Nat.not_lt_zero _ hi)
 exact ⟨g,off,ha,kid_at hp hc i hi⟩
theorem lies_len {d:Nat} {k t:By} {f e:Int} {l:List Pt} {a:Option Addr} {n c:Nat} {W:World} (h:Lies d (.mk k t f e l) (.slice a n c) W):n=l.length:=(kids_row h).1
set_option maxHeartbeats 8000000 in
set_option maxRecDepth 20000 in
theorem commas_any {d m ind:Nat} {bs:By} {k t:By} {f e:Int} {l:List Pt} {a:Option Addr} {n c:Nat} {W:World} (hA:∀ q∈l,PartC d m q) (h:Wr d m ind bs W) (hv:Lies d (.mk k t f e l) (.slice a n c) W) (hw:∀ q∈l,wtP q≤1099511627776) (hd:∀ q∈l,ind+deep q≤1099511627776) (hn:n≤1099511627776) (hl:bs.length+(byt (commas (l.map (pcs ind)))).length≤140737488355328) :
  Calls Tryz.prog 103 #[.pointer (some ⟨d,0,none⟩),.slice a n c] W (Writes d m ind bs W (byt (commas (l.map (pcs ind))))):=by
 have HA:=hid hA
 have HV:=hid hv
 have HWT:=hid hw
 have HD:=hid hd
 have HL:=hid hl
 have HH:=hid h
 have HN:=hid (lies_len hv)
 clear hA hv hw hd hl h
 go_enter Tryz.func103,Tryz.ntmps103
 go_wp2_with fail
 go_loopw [8] (fun iv wr=>∃ i:Nat,iv=.int .i64 i∧i≤n∧Hid (Wr d m ind (bs++byt (commas ((l.map (pcs ind)).take i))) wr)∧Hid (Kp d W wr)) (fun iv _=>n - (Go.RowKit.intOf iv).toNat)
 case atStart=>exact ⟨0,rfl,Nat.zero_le _,hid (by simpa [commas,byt_nil] using HH.out),hid (Kp.refl _ _)⟩
 case round =>
  obtain ⟨i,rfl,hi,HR,HK⟩:=hrel
  by_cases hlt:i<n
  ·have hll:i<l.length:=by rw [← HN.out];exact hlt
   obtain ⟨g,off,rfl,k',t',f',e',ks',a',c',hK⟩:=Lies.row (HV.out.later HK.out.below) hll
   have hct:=commas_take (l.map (pcs ind)) i (by rw [List.length_map];exact hll)
   have htl:=commas_take_len (l.map (pcs ind)) (i+1)
   rw [List.getElem_map] at hct
   have hPq:=HA.out _ (List.getElem_mem hll)
   have hwq:=HWT.out _ (List.getElem_mem hll)
   have hdq:=HD.out _ (List.getElem_mem hll)
   have hcl:bs.length+(byt (commas ((l.map (pcs ind)).take i))).length+((if i=0 then [] else [(44:UInt8),32]).length+(showP ind l[i]).length)≤140737488355328:=by
    have:=HL.out
    rw [hct] at htl
    simp only [List.length_append] at htl
    show _+(_+(byt (pcs ind l[i])).length)≤_
    omega
   have HC:=hid hct
   have j0:=hK.k0
   have j1:=hK.k1
   have j2:=hK.k2
   have j3:=hK.k3
   have j4:=hK.k4
   obtain ⟨q,hq⟩:∃ q,l[i]=q:=⟨_,rfl⟩
   rw [hq] at hPq hwq hdq hcl
   have HKin:=hid hK.kids
   have HQ:=hid (hq.symm.trans hK.eq)
   have HQ0:=hid hq
   obtain ⟨y0,hy0⟩:∃ x,bstr k'=x:=⟨_,rfl⟩
   obtain ⟨y1,hy1⟩:∃ x,bstr t'=x:=⟨_,rfl⟩
   obtain ⟨z0,hz0⟩:∃ x,ks'.length=x:=⟨_,rfl⟩
   rw [hy0] at j0
   rw [hy1] at j1
   rw [hz0] at j4
   have HE:=hid (show Value.agg #[.string y0,.string y1,.int .i64 f',.int .i64 e',.slice a' z0 c']=arg q (.slice a' ks'.length c') by rw [HQ.out,← hy0,← hy1,← hz0];rfl)
   have hi0:(0:Int)≤(i:Int):=by omega
   have hi1:(i:Int)<(n:Int):=by omega
   clear hct htl hK hq hy0 hy1 hz0
   go_upto_region 3 with fail
   obtain ⟨w1,hw1,hq1,hb1,_⟩:=new_block wr (.cells #[.string y0,.string y1,.int .i64 f',.int .i64 e',.slice a' z0 c'] 25)
   have hk1:Kp d wr w1:=(Kp.refl d wr).later hb1 (Nat.le_of_lt HR.out.bx.lt)
   rw [hw1]
   have hr1:=hid (HR.out.later hb1)
   have HK1:=hid (HK.out.trans hk1)
   have HL1:=hid (show Lies d q (.slice a' ks'.length c') w1 by rw [HQ.out];exact Lies.later HKin.out hk1.below)
   have hbd:=HR.out.bx.lt
   clear hw1 hb1 hk1 j0 j1 j2 j3 j4
   by_cases h0:i=0
   ·subst h0
    have hg0:¬ (0:Nat)<0:=by omega
    obtain ⟨⟨p0,p1,p2,p3,p4⟩,pf⟩:=J.cells_five hq1
    have cP:=hPq _ _ w1 _ ind HE.out hr1.out HL1.out hwq hdq (by simp only [List.length_append];simp only [if_true,List.length_nil] at hcl;omega)
    have HC0:=hid (show byt (commas ((l.map (pcs ind)).take (0+1)))=byt (commas ((l.map (pcs ind)).take 0))++showP ind q by rw [HC.out,if_pos rfl,HQ0.out];rfl)
    clear hPq hwq hdq hcl hq1
    go_wp2_with fail
    refine cP.mono ?_
    rintro e w3 ⟨rfl,hw3,hk3⟩
    have HR3:=hid hw3
    have HK3:=hid (HK1.out.trans hk3)
    clear cP hw3 hk3 p0 p1 p2 p3 p4 pf
    go_wp2_with fail
    go_roundw
    case rel=>exact ⟨0+1,by go_num,by omega,hid (by rw [HC0.out,← List.append_assoc];exact HR3.out),HK3⟩
    case measure=>simp [Go.RowKit.intOf];omega
   ·have hg0:0<i:=by omega
    have c1:=write1 hr1.out ⟨#[44,32]⟩ [44,32] rfl (by simp only [List.length_append,List.length_cons,List.length_nil];rw [if_neg h0] at hcl;simp only [List.length_cons,List.length_nil] at hcl;omega)
    have HQ1:=hid hq1
    have HC0:=hid (show byt (commas ((l.map (pcs ind)).take (i+1)))=byt (commas ((l.map (pcs ind)).take i))++([44,32]++showP ind q) by rw [HC.out,if_neg h0,HQ0.out];rfl)
    rw [if_neg h0] at hcl
    clear hq1
    go_wp2_with fail
    refine c1.mono ?_
    rintro e w2 ⟨rfl,hw2,hk2⟩
    have hq2:=hk2.oth _ _ HQ1.out (by simp;omega) (fun _ _ e=>absurd (Obj.cells.inj e).2.1 (by decide))
    obtain ⟨⟨p0,p1,p2,p3,p4⟩,pf⟩:=J.cells_five hq2
    have cP:=hPq _ _ w2 _ ind HE.out hw2 (HL1.out.later hk2.below) hwq hdq (by simp only [List.length_append,List.length_cons,List.length_nil] at hcl ⊢;omega)
    have HK2:=hid (HK1.out.trans hk2)
    clear c1 hw2 hk2 hPq hwq hdq hcl hq2
    go_wp2_with fail
    refine cP.mono ?_
    rintro e w3 ⟨rfl,hw3,hk3⟩
    have HR3:=hid hw3
    have HK3:=hid (HK2.out.trans hk3)
    clear cP hw3 hk3 p0 p1 p2 p3 p4 pf
    go_wp2_with fail
    go_roundw
    case rel=>exact ⟨i+1,by go_num,by omega,hid (by rw [HC0.out];simpa [List.append_assoc] using HR3.out),HK3⟩
    case measure=>simp [Go.RowKit.intOf];omega
  ·obtain rfl:i=n:=by omega
   go_wp2_with fail
   go_end0
   refine ⟨rfl,?_,HK.out⟩
   have:=HR.out
   rw [List.take_of_length_le (by rw [List.length_map,HN.out];exact Nat.le_refl _)] at this
   exact this
theorem repeat_tabs:∀ n:Nat,Lib.repeatL [9] n=tabs n
 | 0=>rfl
 | n+1=>by
  have h:=repeat_tabs n
  unfold tabs at h ⊢
  rw [List.replicate_succ,← h];rfl
set_option maxHeartbeats 4000000 in
set_option maxRecDepth 20000 in
theorem newLine_any {d m ind:Nat} {bs:By} {W:World} (h:Wr d m ind bs W) (hi:ind≤2199023255552) (hl:bs.length+(ind+1)≤140737488355328) :
  Calls Tryz.prog 143 #[.pointer (some ⟨d,0,none⟩)] W (Writes d m ind bs W (10 :: tabs ind)):=by
 have cR:=fun X:World=>Tryz.strings_Repeat ⟨#[9]⟩ ind X (by omega) (by show 1*ind≤_;omega)
 obtain ⟨p2,p3,p4,p5⟩:=h.cells
 have HW:=hid h
 have hlt:=h.bx.lt
 clear h
 go_enter Tryz.func143,Tryz.ntmps143
 go_wp2_with fail
 refine (cR _).mono ?_
 rintro e w2 ⟨rfl,hb2⟩
 have hw2:=HW.out.later hb2
 have hk2:Kp d W w2:=(Kp.refl d W).later hb2 (Nat.le_of_lt hlt)
 have c1:=write2 hw2 ⟨#[10]⟩ ⟨(Lib.repeatL (ByteArray.mk #[9]).data.toList ind).toArray⟩ (10 :: tabs ind) (by show [10]++Lib.repeatL [9] ind=_;rw [repeat_tabs];rfl) (by simp only [List.length_cons,tabs,List.length_replicate];omega)
 have HK:=hid hk2
 clear cR p2 p3 p4 p5 hw2 hk2 hb2
 go_wp2_with fail
 refine c1.mono ?_
 rintro e w3 ⟨rfl,hw3,hk3⟩
 have hfin:=hid (And.intro hw3 (HK.out.trans hk3))
 clear c1 hw3 hk3
 go_wp2_with fail
 go_end0
 exact ⟨rfl,hfin.out⟩
end Go.Proofs.YtmclaaonlhnbmaaGreatDoor.H
namespace Go.Proofs.YtmclaaonlhnbmaaGreatDoor.H
open Go.RowKit
open Go.Lib hiding intOf
open U S T K
open Go.Proofs.YtmclaaonlhnbmaaGreatDoor.J (arg wtP wtL kids_row kid_at KidAt new_block kids_below Pt.ind wtL_mem wtL_length)
theorem Wr.setInd {d m ind:Nat} {bs:By} {W:World} (h:Wr d m ind bs W) (j:Nat):∃ W',W.setCell ⟨d,3,none⟩ (.int .i64 j)=W'∧Wr d m j bs W'∧Kp d W W':=by
 obtain ⟨p,v,hb,hp,ho,hn⟩:=h.bx.at'
 have hq:(W.setCell ⟨d,3,none⟩ (.int .i64 j)).heap[d]?=some (.cells (p :: v :: exW m j).toArray 56 (0,0)):=by
  rw [Go.Joins.block_setCell hb]
  simp only [exW,List.setIfInBounds_toArray,List.set_cons_zero,List.set_cons_succ]
 have hne:=ownBlock_neF ho hb hTw
 have hk:Kp d W (W.setCell ⟨d,3,none⟩ (.int .i64 j)):=⟨(Below.refl _ _).setCell (p:=⟨d,3,none⟩) (Nat.le_refl _) _,(OthersKept.refl _ _ _).setCell ⟨d,3,none⟩ rfl _⟩
 refine ⟨_,rfl,⟨⟨p,v,hq,hp,ho.kept (row:=some d) ⟨rfl,rfl,rfl,by simp [World.setCell],fun k _ hk=>Below.heap_setCell _ _ _ _ (fun e=>hk (by simp [e]))⟩ (Or.inr hne),hn⟩,h.tab.kept (hk.below.block _ h.ml),h.ml⟩,hk⟩
def lnP (ind:Nat) (x:List Pc):List Pc:=.sp (10 :: tabs (ind+1)) :: x
theorem lines_take (l:List (List Pc)) (ind i:Nat) (h:i<l.length):byt ((l.take (i+1)).map (lnP ind)).flatten=byt ((l.take i).map (lnP ind)).flatten++((10 :: tabs (ind+1))++byt l[i]):=by
 rw [List.take_succ_eq_append_getElem h,List.map_append,List.flatten_append,byt_app]
 simp [lnP,byt_sp]
theorem lines_take_len (l:List (List Pc)) (ind i:Nat):(byt ((l.take i).map (lnP ind)).flatten).length≤(byt (l.map (lnP ind)).flatten).length:=by
 have h:(l.map (lnP ind)).flatten=((l.take i).map (lnP ind)).flatten++((l.drop i).map (lnP ind)).flatten:=by rw [← List.flatten_append,← List.map_append,List.take_append_drop]
 rw [h,byt_app,List.length_append];omega
theorem byt_lines (ind:Nat) (l:List (List Pc)):byt (linesP ind l)=[123]++(byt (l.map (lnP ind)).flatten++((if l.length=0 then [] else 10 :: tabs ind)++[125])):=by
 unfold linesP
 rw [byt_wd,byt_app,byt_app,byt_wd,byt_nil,List.append_nil]
 cases l with
 | nil=>rfl
 | cons x r=>simp only [reduceCtorEq,if_false,List.length_cons,Nat.add_one_ne_zero,byt_sp,byt_nil,List.append_nil];rfl
set_option maxHeartbeats 8000000 in
set_option maxRecDepth 20000 in
theorem lines_any {d m about:Nat} {bs:By} {k t:By} {f e:Int} {l:List Pt} {a:Option Addr} {n c:Nat} {W:World} (ind:Nat) (T:Pt→List Pc) (fid:FuncId)
  (hen:∀ args X,(callFunc fid args).run Tryz.prog X=.ok (.enter fid args) X)
  (hI:∀ q∈l,∀ (lv:Value) (cs:Array Value) (X:World) (ys:By),Value.agg cs=arg q lv→Wr d m (ind+1) ys X→Lies d q lv X→ys.length+(byt (T q)).length≤140737488355328→Calls Tryz.prog fid #[.pointer (some ⟨d,0,none⟩),.agg cs] X (Writes d m (ind+1) ys X (byt (T q))))
  (h:Wr d m about bs W) (hv:Lies d (.mk k t f e l) (.slice a n c) W) (hn:n≤1099511627776) (hi:ind≤1099511627776) (hl:bs.length+(byt (linesP ind (l.map T))).length≤140737488355328) :
  Calls Tryz.prog 106 #[.pointer (some ⟨d,0,none⟩),.slice a n c,.int .i64 ind,.func (.func fid) #[.pointer (some ⟨d,0,none⟩)] #[]] W (Writes d m about bs W (byt (linesP ind (l.map T)))):=by
 have HI:=hid hI
 have HV:=hid hv
 have HN:=hid (lies_len hv)
 rw [byt_lines] at hl ⊢
 rw [List.length_map] at hl ⊢
 rw [← HN.out] at hl ⊢
 obtain ⟨L,hL⟩:∃ L,l.map T=L:=⟨_,rfl⟩
 have HLL:=hid hL
 rw [hL] at hl ⊢
 obtain ⟨Z,hZ⟩:∃ Z:By,(if n=0 then [] else 10 :: tabs ind)=Z:=⟨_,rfl⟩
 rw [hZ] at hl ⊢
 have HZ:=hid hZ
 clear hZ
 simp only [List.length_append,List.length_cons,List.length_nil] at hl
 have HL:=hid hl
 have hwrap:IntKind.i64.wrap ((ind:Int)+1)=((ind+1:Nat):Int):=by rw [IntKind.wrap_i64];omega
 obtain ⟨z2,z3,z4,z5⟩:=h.cells
 have c1:=write1 h ⟨#[123]⟩ [123] rfl (by simp only [List.length_cons,List.length_nil];omega)
 clear hI hv hl hL h
 go_enter Tryz.func106,Tryz.ntmps106
 go_wp2_with fail
 refine c1.mono ?_
 rintro e w1 ⟨rfl,hw1,hk1⟩
 obtain ⟨z2,z3,z4,z5⟩:=hw1.cells
 obtain ⟨w2,hw2,hr2,hk2⟩:=hw1.setInd (ind+1)
 have HR2:=hid hr2
 have HK2:=hid (hk1.trans hk2)
 have HV2:=hid (HV.out.later HK2.out.below)
 clear c1 hw1 hk1 hr2 hk2
 have hw2':w1.setCell ⟨d,3,none⟩ (.int .i64 ((ind:Int)+1))=w2:=hw2
 go_upto_region 3 with fail
 try rw [hw2']
 clear hw2 hw2' z2 z3 z4 z5
 go_wp2_with fail
 go_loopw [25] (fun iv wr=>∃ i:Nat,iv=.int .i64 i∧i≤n∧Hid (Wr d m (ind+1) (bs++[123]++byt ((L.take i).map (lnP ind)).flatten) wr)∧Hid (Kp d W wr)) (fun iv _=>n - (Go.RowKit.intOf iv).toNat)
 case atStart=>exact ⟨0,rfl,Nat.zero_le _,hid (by simpa [byt_nil] using HR2.out),HK2⟩
 case round =>
  obtain ⟨i,rfl,hi',HR,HK⟩:=hrel
  by_cases hlt:i<n
  ·have hll:i<l.length:=by rw [← HN.out];exact hlt
   have hLL:i<L.length:=by rw [← HLL.out,List.length_map];exact hll
   obtain ⟨g,off,rfl,k',t',f',e',ks',a',c',hK⟩:=Lies.row (HV.out.later HK.out.below) hll
   have hct:=lines_take L ind i hLL
   have htl:=lines_take_len L ind (i+1)
   have hLi:L[i]=T l[i]:=by have:=HLL.out;subst this;rw [List.getElem_map]
   rw [hLi] at hct
   have hPq:=HI.out _ (List.getElem_mem hll)
   have hcl:bs.length+1+(byt ((L.take i).map (lnP ind)).flatten).length+(ind+2+(byt (T l[i])).length)≤140737488355328:=by
    have:=HL.out
    rw [hct] at htl
    simp only [List.length_append,List.length_cons,tabs,List.length_replicate] at htl
    omega
   have HC:=hid hct
   have j0:=hK.k0
   have j1:=hK.k1
   have j2:=hK.k2
   have j3:=hK.k3
   have j4:=hK.k4
   obtain ⟨q,hq⟩:∃ q,l[i]=q:=⟨_,rfl⟩
   rw [hq] at hPq hcl
   have HKin:=hid hK.kids
   have HQ:=hid (hq.symm.trans hK.eq)
   have HC0:=hid (show byt ((L.take (i+1)).map (lnP ind)).flatten=byt ((L.take i).map (lnP ind)).flatten++((10 :: tabs (ind+1))++byt (T q)) by rw [HC.out,hq])
   obtain ⟨y0,hy0⟩:∃ x,bstr k'=x:=⟨_,rfl⟩
   obtain ⟨y1,hy1⟩:∃ x,bstr t'=x:=⟨_,rfl⟩
   obtain ⟨z0,hz0⟩:∃ x,ks'.length=x:=⟨_,rfl⟩
   rw [hy0] at j0
   rw [hy1] at j1
   rw [hz0] at j4
   have HE:=hid (show Value.agg #[.string y0,.string y1,.int .i64 f',.int .i64 e',.slice a' z0 c']=arg q (.slice a' ks'.length c') by rw [HQ.out,← hy0,← hy1,← hz0];rfl)
   have hi0:(0:Int)≤(i:Int):=by omega
   have hi1:(i:Int)<(n:Int):=by omega
   clear hct htl hK hq hy0 hy1 hz0 hLi
   go_upto_region 6 with fail
   obtain ⟨w3,hw3,hq3,hb3,_⟩:=new_block wr (.cells #[.string y0,.string y1,.int .i64 f',.int .i64 e',.slice a' z0 c'] 25)
   have hk3:Kp d wr w3:=(Kp.refl d wr).later hb3 (Nat.le_of_lt HR.out.bx.lt)
   rw [hw3]
   have hr3:=HR.out.later hb3
   have HK3:=hid (HK.out.trans hk3)
   have HL3:=hid (show Lies d q (.slice a' ks'.length c') w3 by rw [HQ.out];exact Lies.later HKin.out hk3.below)
   have HQ3:=hid hq3
   have hbd:=HR.out.bx.lt
   have cN:=newLine_any hr3 (by omega) (by simp only [List.length_append,List.length_cons,List.length_nil];omega)
   clear hw3 hb3 hk3 hr3 hq3 j0 j1 j2 j3 j4
   go_wp2_with fail
   refine cN.mono ?_
   rintro e w4 ⟨rfl,hw4,hk4⟩
   have hq4:=hk4.oth _ _ HQ3.out (by simp;omega) (fun _ _ e=>absurd (Obj.cells.inj e).2.1 (by decide))
   obtain ⟨⟨p0,p1,p2,p3,p4⟩,pf⟩:=J.cells_five hq4
   have cP:=hPq _ _ w4 _ HE.out hw4 (HL3.out.later hk4.below) (by simp only [List.length_append,List.length_cons,List.length_nil,tabs,List.length_replicate] at hcl ⊢;omega)
   have HK4:=hid (HK3.out.trans hk4)
   clear cN hw4 hk4 hPq hcl hq4
   go_wp2_with fail
   refine cP.mono ?_
   rintro e w5 ⟨rfl,hw5,hk5⟩
   have HR5:=hid hw5
   have HK5:=hid (HK4.out.trans hk5)
   clear cP hw5 hk5 p0 p1 p2 p3 p4 pf
   go_wp2_with fail
   go_roundw
   case rel=>exact ⟨i+1,by go_num,by omega,hid (by rw [HC0.out];simpa [List.append_assoc] using HR5.out),HK5⟩
   case measure=>simp [Go.RowKit.intOf];omega
  ·obtain rfl:i=n:=by omega
   have hall:(L.take i)=L:=List.take_of_length_le (by rw [← HLL.out,List.length_map,HN.out];exact Nat.le_refl _)
   have HR9:=HR.out
   rw [hall] at HR9
   obtain ⟨z2,z3,z4,z5⟩:=HR9.cells
   obtain ⟨w3,hw3,hr3,hk3⟩:=HR9.setInd ind
   have HR3:=hid hr3
   have HK3:=hid (HK.out.trans hk3)
   clear HR9 hr3 hk3 hall
   go_upto_region 10 with fail
   try rw [hw3]
   clear hw3 z2 z3 z4 z5
   by_cases h0:i=0
   ·subst h0
    have hg0:¬ (0:Nat)<0:=by omega
    have hZ0:Z=[]:=by rw [← HZ.out];rfl
    subst hZ0
    have c2:=write1 HR3.out ⟨#[125]⟩ [125] rfl (by have:=HL.out;simp only [List.length_append,List.length_cons,List.length_nil] at this ⊢;omega)
    go_wp2_with fail
    refine c2.mono ?_
    rintro e w4 ⟨rfl,hw4,hk4⟩
    obtain ⟨z2,z3,z4,z5⟩:=hw4.cells
    obtain ⟨w5,hw5,hr5,hk5⟩:=hw4.setInd about
    have hfin:=hid (And.intro hr5 (HK3.out.trans (hk4.trans hk5)))
    clear c2 hw4 hk4 hr5 hk5
    go_wp2_with fail
    try rw [hw5]
    go_end0
    exact ⟨rfl,by simpa [List.append_assoc] using hfin.out.1,hfin.out.2⟩
   ·have hg0:0<i:=by omega
    have hZ0:Z=10 :: tabs ind:=by rw [← HZ.out,if_neg h0]
    subst hZ0
    have cN:=newLine_any HR3.out (by omega) (by have:=HL.out;simp only [List.length_append,List.length_cons,List.length_nil,tabs,List.length_replicate] at this ⊢;omega)
    have hl5:bs.length+1+(byt (L.map (lnP ind)).flatten).length+(10 :: tabs ind).length+1≤140737488355328:=by have:=HL.out;omega
    go_wp2_with fail
    refine cN.mono ?_
    rintro e w6 ⟨rfl,hw6,hk6⟩
    have HK6:=hid (HK3.out.trans hk6)
    have c2:=write1 hw6 ⟨#[125]⟩ [125] rfl (by simp only [List.length_append,List.length_cons,List.length_nil] at hl5 ⊢;omega)
    clear cN hk6 hl5
    go_wp2_with fail
    refine c2.mono ?_
    rintro e w4 ⟨rfl,hw4,hk4⟩
    obtain ⟨z2,z3,z4,z5⟩:=hw4.cells
    obtain ⟨w5,hw5,hr5,hk5⟩:=hw4.setInd about
    have hfin:=hid (And.intro hr5 (HK6.out.trans (hk4.trans hk5)))
    clear c2 hw4 hk4 hr5 hk5 hw6
    go_wp2_with fail
    try rw [hw5]
    go_end0
    exact ⟨rfl,by simpa [List.append_assoc] using hfin.out.1,hfin.out.2⟩
end Go.Proofs.YtmclaaonlhnbmaaGreatDoor.H
namespace Go.Proofs.YtmclaaonlhnbmaaGreatDoor.H
open Go.RowKit
open Go.Lib hiding intOf
open U S T K
open Go.Proofs.YtmclaaonlhnbmaaGreatDoor.J (arg wtP wtL kids_row kid_at KidAt new_block kids_below Pt.ind wtL_mem wtL_length)
set_option maxHeartbeats 4000000 in
set_option maxRecDepth 20000 in
theorem called_any {d m ind:Nat} {bs:By} {k t:By} {f e:Int} {ks:List Pt} {lv:Value} {cs:Array Value} {W:World} (xb:ByteArray) (x:By) (HXB:Hid (bstr x=xb)) (hA:AllC d m ks) (hcs:Value.agg cs=arg (.mk k t f e ks) lv) (h:Wr d m ind bs W) (hv:Lies d (.mk k t f e ks) lv W) (hw:wtP (.mk k t f e ks)≤1099511627776) (hd:ind+deep (.mk k t f e ks)≤1099511627776) (hl:bs.length+(byt (called x (ks.map (pcs ind)))).length≤140737488355328) :
  Calls Tryz.prog 112 #[.pointer (some ⟨d,0,none⟩),.string xb,.agg cs] W (Writes d m ind bs W (byt (called x (ks.map (pcs ind))))):=by
 obtain ⟨kb,tb,n,a,c,rfl,hkb,htb,hn,rfl⟩:=cs_form hcs hv
 have HV:=hid hcs
 have HTB:=hid htb
 have HN:=hid hn
 have hlb:n≤1099511627776:=by rw [← hn];rw [wtP] at hw;exact Nat.le_trans (wtL_length ks) (by omega)
 clear hcs hkb htb
 clear hn
 have hx:byt (called x (ks.map (pcs ind)))=((x++[40])++(byt (commas (ks.map (pcs ind)))++[41])):=by simp [called,byt_app,byt_wd,byt_nil]
 rw [hx] at hl ⊢
 clear hx
 try simp only [List.length_append,List.length_cons,List.length_nil] at hl
 go_enter Tryz.func112,Tryz.ntmps112
 go_upto_region 1 with fail
 obtain ⟨w1,hw1,hq1,hb1,hz1⟩:=new_block W (.cells #[.string kb,.string tb,.int .i64 f,.int .i64 e,.slice a n c] 25)
 rw [hw1]
 have HF:=hid (Fr.begin h hv hb1 hq1)
 clear hw1 hq1 hb1 hz1 hv h
 obtain ⟨⟨p0,p1,p2,p3,p4⟩,pf⟩:=J.cells_five HF.out.box
 have c:=write2 HF.out.wr xb ⟨#[40]⟩ (x++[40]) (by rw [← HXB.out];rfl) (by (try simp only [List.length_append,List.length_cons,List.length_nil]);omega)
 go_wp2_with fail
 refine c.mono ?_
 rintro e w2 ⟨rfl,hw2,hk2⟩
 replace HF:=hid (HF.out.step hw2 hk2)
 clear c hw2 hk2 p0 p1 p2 p3 p4 pf
 obtain ⟨⟨p0,p1,p2,p3,p4⟩,pf⟩:=J.cells_five HF.out.box
 have c:=commas_any (f:=f) (e:=e) (k:=k) (t:=t) hA.one HF.out.wr HF.out.lies (fun q hq=>by have:=wtL_mem hq;rw [wtP] at hw;omega) (fun q hq=>by have:=deep_mem hq;rw [deep] at hd;omega) hlb (by (try simp only [List.length_append,List.length_cons,List.length_nil]);omega)
 go_wp2_with fail
 refine c.mono ?_
 rintro e w2 ⟨rfl,hw2,hk2⟩
 replace HF:=hid (HF.out.step hw2 hk2)
 clear c hw2 hk2 p0 p1 p2 p3 p4 pf
 obtain ⟨⟨p0,p1,p2,p3,p4⟩,pf⟩:=J.cells_five HF.out.box
 have c:=write1 HF.out.wr ⟨#[41]⟩ [41] rfl (by (try simp only [List.length_append,List.length_cons,List.length_nil]);omega)
 go_wp2_with fail
 refine c.mono ?_
 rintro e w2 ⟨rfl,hw2,hk2⟩
 replace HF:=hid (HF.out.step hw2 hk2)
 clear c hw2 hk2 p0 p1 p2 p3 p4 pf
 obtain ⟨⟨p0,p1,p2,p3,p4⟩,pf⟩:=J.cells_five HF.out.box
 go_wp2_with fail
 go_end0
 exact ⟨rfl,by have:=HF.out.wr;simpa [List.append_assoc,ksP] using this,HF.out.kp⟩
set_option maxHeartbeats 4000000 in
set_option maxRecDepth 20000 in
theorem call_any {d m ind:Nat} {bs:By} {k t:By} {f e:Int} {ks:List Pt} {lv:Value} {cs:Array Value} {W:World} (hA:AllC d m ks) (hcs:Value.agg cs=arg (.mk k t f e ks) lv) (h:Wr d m ind bs W) (hv:Lies d (.mk k t f e ks) lv W) (hw:wtP (.mk k t f e ks)≤1099511627776) (hd:ind+deep (.mk k t f e ks)≤1099511627776) (hl:bs.length+(byt (bodyP pcs ind t ks .call)).length≤140737488355328) :
  Calls Tryz.prog 71 #[.pointer (some ⟨d,0,none⟩),.agg cs] W (Writes d m ind bs W (byt (bodyP pcs ind t ks .call))):=by
 obtain ⟨kb,tb,n,a,c,rfl,hkb,htb,hn,rfl⟩:=cs_form hcs hv
 have HV:=hid hcs
 have HTB:=hid htb
 have HN:=hid hn
 have hlb:n≤1099511627776:=by rw [← hn];rw [wtP] at hw;exact Nat.le_trans (wtL_length ks) (by omega)
 clear hcs hkb htb
 clear hn
 have hx:byt (bodyP pcs ind t ks .call)=byt (called t (ks.map (pcs ind))):=by simp [bodyP,called,byt_app,byt_wd,byt_nil]
 rw [hx] at hl ⊢
 clear hx
 try simp only [List.length_append,List.length_cons,List.length_nil] at hl
 go_enter Tryz.func71,Tryz.ntmps71
 go_upto_region 1 with fail
 obtain ⟨w1,hw1,hq1,hb1,hz1⟩:=new_block W (.cells #[.string kb,.string tb,.int .i64 f,.int .i64 e,.slice a n c] 25)
 rw [hw1]
 have HF:=hid (Fr.begin h hv hb1 hq1)
 clear hw1 hq1 hb1 hz1 hv h
 obtain ⟨⟨p0,p1,p2,p3,p4⟩,pf⟩:=J.cells_five HF.out.box
 have c:=called_any tb t HTB hA HV.out HF.out.wr HF.out.lies hw hd (by (try simp only [List.length_append,List.length_cons,List.length_nil]);omega)
 go_wp2_with fail
 refine c.mono ?_
 rintro e w2 ⟨rfl,hw2,hk2⟩
 replace HF:=hid (HF.out.step hw2 hk2)
 clear c hw2 hk2 p0 p1 p2 p3 p4 pf
 obtain ⟨⟨p0,p1,p2,p3,p4⟩,pf⟩:=J.cells_five HF.out.box
 go_wp2_with fail
 go_end0
 exact ⟨rfl,by have:=HF.out.wr;simpa [List.append_assoc,ksP] using this,HF.out.kp⟩
set_option maxHeartbeats 4000000 in
set_option maxRecDepth 20000 in
theorem new_any {d m ind:Nat} {bs:By} {k t:By} {f e:Int} {ks:List Pt} {lv:Value} {cs:Array Value} {W:World} (hA:AllC d m ks) (hcs:Value.agg cs=arg (.mk k t f e ks) lv) (h:Wr d m ind bs W) (hv:Lies d (.mk k t f e ks) lv W) (hw:wtP (.mk k t f e ks)≤1099511627776) (hd:ind+deep (.mk k t f e ks)≤1099511627776) (hl:bs.length+(byt (bodyP pcs ind t ks .new')).length≤140737488355328) :
  Calls Tryz.prog 74 #[.pointer (some ⟨d,0,none⟩),.agg cs] W (Writes d m ind bs W (byt (bodyP pcs ind t ks .new'))):=by
 obtain ⟨kb,tb,n,a,c,rfl,hkb,htb,hn,rfl⟩:=cs_form hcs hv
 have HV:=hid hcs
 have HTB:=hid htb
 have HN:=hid hn
 have hlb:n≤1099511627776:=by rw [← hn];rw [wtP] at hw;exact Nat.le_trans (wtL_length ks) (by omega)
 clear hcs hkb htb
 clear hn
 have hx:byt (bodyP pcs ind t ks .new')=byt (called kNew (ks.map (pcs ind))):=by simp [bodyP,called,byt_app,byt_wd,byt_nil,kNew]
 rw [hx] at hl ⊢
 clear hx
 try simp only [List.length_append,List.length_cons,List.length_nil] at hl
 go_enter Tryz.func74,Tryz.ntmps74
 go_upto_region 1 with fail
 obtain ⟨w1,hw1,hq1,hb1,hz1⟩:=new_block W (.cells #[.string kb,.string tb,.int .i64 f,.int .i64 e,.slice a n c] 25)
 rw [hw1]
 have HF:=hid (Fr.begin h hv hb1 hq1)
 clear hw1 hq1 hb1 hz1 hv h
 obtain ⟨⟨p0,p1,p2,p3,p4⟩,pf⟩:=J.cells_five HF.out.box
 have c:=called_any ⟨#[110,101,119]⟩ kNew (hid rfl) hA HV.out HF.out.wr HF.out.lies hw hd (by (try simp only [List.length_append,List.length_cons,List.length_nil]);omega)
 go_wp2_with fail
 refine c.mono ?_
 rintro e w2 ⟨rfl,hw2,hk2⟩
 replace HF:=hid (HF.out.step hw2 hk2)
 clear c hw2 hk2 p0 p1 p2 p3 p4 pf
 obtain ⟨⟨p0,p1,p2,p3,p4⟩,pf⟩:=J.cells_five HF.out.box
 go_wp2_with fail
 go_end0
 exact ⟨rfl,by have:=HF.out.wr;simpa [List.append_assoc,ksP] using this,HF.out.kp⟩
set_option maxHeartbeats 4000000 in
set_option maxRecDepth 20000 in
theorem make_any {d m ind:Nat} {bs:By} {k t:By} {f e:Int} {ks:List Pt} {lv:Value} {cs:Array Value} {W:World} (hA:AllC d m ks) (hcs:Value.agg cs=arg (.mk k t f e ks) lv) (h:Wr d m ind bs W) (hv:Lies d (.mk k t f e ks) lv W) (hw:wtP (.mk k t f e ks)≤1099511627776) (hd:ind+deep (.mk k t f e ks)≤1099511627776) (hl:bs.length+(byt (bodyP pcs ind t ks .make')).length≤140737488355328) :
  Calls Tryz.prog 75 #[.pointer (some ⟨d,0,none⟩),.agg cs] W (Writes d m ind bs W (byt (bodyP pcs ind t ks .make'))):=by
 obtain ⟨kb,tb,n,a,c,rfl,hkb,htb,hn,rfl⟩:=cs_form hcs hv
 have HV:=hid hcs
 have HTB:=hid htb
 have HN:=hid hn
 have hlb:n≤1099511627776:=by rw [← hn];rw [wtP] at hw;exact Nat.le_trans (wtL_length ks) (by omega)
 clear hcs hkb htb
 clear hn
 have hx:byt (bodyP pcs ind t ks .make')=byt (called kMake (ks.map (pcs ind))):=by simp [bodyP,called,byt_app,byt_wd,byt_nil,kMake]
 rw [hx] at hl ⊢
 clear hx
 try simp only [List.length_append,List.length_cons,List.length_nil] at hl
 go_enter Tryz.func75,Tryz.ntmps75
 go_upto_region 1 with fail
 obtain ⟨w1,hw1,hq1,hb1,hz1⟩:=new_block W (.cells #[.string kb,.string tb,.int .i64 f,.int .i64 e,.slice a n c] 25)
 rw [hw1]
 have HF:=hid (Fr.begin h hv hb1 hq1)
 clear hw1 hq1 hb1 hz1 hv h
 obtain ⟨⟨p0,p1,p2,p3,p4⟩,pf⟩:=J.cells_five HF.out.box
 have c:=called_any ⟨#[109,97,107,101]⟩ kMake (hid rfl) hA HV.out HF.out.wr HF.out.lies hw hd (by (try simp only [List.length_append,List.length_cons,List.length_nil]);omega)
 go_wp2_with fail
 refine c.mono ?_
 rintro e w2 ⟨rfl,hw2,hk2⟩
 replace HF:=hid (HF.out.step hw2 hk2)
 clear c hw2 hk2 p0 p1 p2 p3 p4 pf
 obtain ⟨⟨p0,p1,p2,p3,p4⟩,pf⟩:=J.cells_five HF.out.box
 go_wp2_with fail
 go_end0
 exact ⟨rfl,by have:=HF.out.wr;simpa [List.append_assoc,ksP] using this,HF.out.kp⟩
set_option maxHeartbeats 4000000 in
set_option maxRecDepth 20000 in
theorem field_any {d m ind:Nat} {bs:By} {k t:By} {f e:Int} {ks:List Pt} {lv:Value} {cs:Array Value} {W:World} (hA:AllC d m ks) (hcs:Value.agg cs=arg (.mk k t f e ks) lv) (h:Wr d m ind bs W) (hv:Lies d (.mk k t f e ks) lv W) (hw:wtP (.mk k t f e ks)≤1099511627776) (hd:ind+deep (.mk k t f e ks)≤1099511627776) (hl:bs.length+(byt (bodyP pcs ind t ks .field)).length≤140737488355328) :
  Calls Tryz.prog 72 #[.pointer (some ⟨d,0,none⟩),.agg cs] W (Writes d m ind bs W (byt (bodyP pcs ind t ks .field))):=by
 obtain ⟨kb,tb,n,a,c,rfl,hkb,htb,hn,rfl⟩:=cs_form hcs hv
 have HV:=hid hcs
 have HTB:=hid htb
 have HN:=hid hn
 have hlb:n≤1099511627776:=by rw [← hn];rw [wtP] at hw;exact Nat.le_trans (wtL_length ks) (by omega)
 clear hcs hkb htb
 clear hn
 have hx:byt (bodyP pcs ind t ks .field)=(byt (held (oHeld (kidAt ks 0)) (pcs ind (kidAt ks 0)))++([46]++t)):=by simp [bodyP,held,byt_app,byt_wd,byt_nil]
 rw [hx] at hl ⊢
 clear hx
 try simp only [List.length_append,List.length_cons,List.length_nil] at hl
 go_enter Tryz.func72,Tryz.ntmps72
 go_upto_region 1 with fail
 obtain ⟨w1,hw1,hq1,hb1,hz1⟩:=new_block W (.cells #[.string kb,.string tb,.int .i64 f,.int .i64 e,.slice a n c] 25)
 rw [hw1]
 have HF:=hid (Fr.begin h hv hb1 hq1)
 clear hw1 hq1 hb1 hz1 hv h
 obtain ⟨⟨p0,p1,p2,p3,p4⟩,pf⟩:=J.cells_five HF.out.box
 have hwt:=kidAt_wtP (.mk k t f e ks) 0
 have hdp:=kidAt_deep (.mk k t f e ks) 0
 have c0:=kidOf_any (.mk k t f e ks) (.slice a n c) (fun g=>g<d) _ 0 HF.out.lies hw (by decide)
 rw [← HV.out] at c0
 go_wp2_with fail
 refine c0.mono ?_
 rintro e w2 ⟨lv',rfl,hk2,hb2⟩
 replace HF:=hid (HF.out.later hb2)
 clear c0 hb2 p0 p1 p2 p3 p4 pf
 obtain ⟨⟨p0,p1,p2,p3,p4⟩,pf⟩:=J.cells_five HF.out.box
 have hP:=hA.kid 0
 have c:=operand_any (p:=kidAt ks 0) hP (show Value.agg (five (kidAt ks 0) lv').toArray=arg (kidAt ks 0) lv' from rfl) HF.out.wr hk2 (Nat.le_trans hwt hw) (Nat.le_trans (Nat.add_le_add_left hdp ind) hd) (by (try simp only [List.length_append,List.length_cons,List.length_nil]);omega)
 rw [show arg (kidAt (ksP (.mk k t f e ks)) 0) lv'=.agg (five (kidAt ks 0) lv').toArray from rfl]
 generalize (five (kidAt ks 0) lv').toArray=qs at c ⊢
 clear hwt hdp hk2 hP
 go_wp2_with fail
 refine c.mono ?_
 rintro e w2 ⟨rfl,hw2,hk2⟩
 replace HF:=hid (HF.out.step hw2 hk2)
 clear c hw2 hk2 p0 p1 p2 p3 p4 pf
 obtain ⟨⟨p0,p1,p2,p3,p4⟩,pf⟩:=J.cells_five HF.out.box
 have c:=write2 HF.out.wr ⟨#[46]⟩ tb ([46]++t) (by rw [← HTB.out];rfl) (by (try simp only [List.length_append,List.length_cons,List.length_nil]);omega)
 go_wp2_with fail
 refine c.mono ?_
 rintro e w2 ⟨rfl,hw2,hk2⟩
 replace HF:=hid (HF.out.step hw2 hk2)
 clear c hw2 hk2 p0 p1 p2 p3 p4 pf
 obtain ⟨⟨p0,p1,p2,p3,p4⟩,pf⟩:=J.cells_five HF.out.box
 go_wp2_with fail
 go_end0
 exact ⟨rfl,by have:=HF.out.wr;simpa [List.append_assoc,ksP] using this,HF.out.kp⟩
set_option maxHeartbeats 4000000 in
set_option maxRecDepth 20000 in
theorem index_any {d m ind:Nat} {bs:By} {k t:By} {f e:Int} {ks:List Pt} {lv:Value} {cs:Array Value} {W:World} (hA:AllC d m ks) (hcs:Value.agg cs=arg (.mk k t f e ks) lv) (h:Wr d m ind bs W) (hv:Lies d (.mk k t f e ks) lv W) (hw:wtP (.mk k t f e ks)≤1099511627776) (hd:ind+deep (.mk k t f e ks)≤1099511627776) (hl:bs.length+(byt (bodyP pcs ind t ks .index)).length≤140737488355328) :
  Calls Tryz.prog 73 #[.pointer (some ⟨d,0,none⟩),.agg cs] W (Writes d m ind bs W (byt (bodyP pcs ind t ks .index))):=by
 obtain ⟨kb,tb,n,a,c,rfl,hkb,htb,hn,rfl⟩:=cs_form hcs hv
 have HV:=hid hcs
 have HTB:=hid htb
 have HN:=hid hn
 have hlb:n≤1099511627776:=by rw [← hn];rw [wtP] at hw;exact Nat.le_trans (wtL_length ks) (by omega)
 clear hcs hkb htb
 clear hn
 have hx:byt (bodyP pcs ind t ks .index)=(byt (held (oHeld (kidAt ks 0)) (pcs ind (kidAt ks 0)))++([91]++(showP ind (kidAt ks 1)++[93]))):=by simp [bodyP,held,byt_app,byt_wd,byt_nil,showP]
 rw [hx] at hl ⊢
 clear hx
 try simp only [List.length_append,List.length_cons,List.length_nil] at hl
 go_enter Tryz.func73,Tryz.ntmps73
 go_upto_region 1 with fail
 obtain ⟨w1,hw1,hq1,hb1,hz1⟩:=new_block W (.cells #[.string kb,.string tb,.int .i64 f,.int .i64 e,.slice a n c] 25)
 rw [hw1]
 have HF:=hid (Fr.begin h hv hb1 hq1)
 clear hw1 hq1 hb1 hz1 hv h
 obtain ⟨⟨p0,p1,p2,p3,p4⟩,pf⟩:=J.cells_five HF.out.box
 have hwt:=kidAt_wtP (.mk k t f e ks) 0
 have hdp:=kidAt_deep (.mk k t f e ks) 0
 have c0:=kidOf_any (.mk k t f e ks) (.slice a n c) (fun g=>g<d) _ 0 HF.out.lies hw (by decide)
 rw [← HV.out] at c0
 go_wp2_with fail
 refine c0.mono ?_
 rintro e w2 ⟨lv',rfl,hk2,hb2⟩
 replace HF:=hid (HF.out.later hb2)
 clear c0 hb2 p0 p1 p2 p3 p4 pf
 obtain ⟨⟨p0,p1,p2,p3,p4⟩,pf⟩:=J.cells_five HF.out.box
 have hP:=hA.kid 0
 have c:=operand_any (p:=kidAt ks 0) hP (show Value.agg (five (kidAt ks 0) lv').toArray=arg (kidAt ks 0) lv' from rfl) HF.out.wr hk2 (Nat.le_trans hwt hw) (Nat.le_trans (Nat.add_le_add_left hdp ind) hd) (by (try simp only [List.length_append,List.length_cons,List.length_nil]);omega)
 rw [show arg (kidAt (ksP (.mk k t f e ks)) 0) lv'=.agg (five (kidAt ks 0) lv').toArray from rfl]
 generalize (five (kidAt ks 0) lv').toArray=qs at c ⊢
 clear hwt hdp hk2 hP
 go_wp2_with fail
 refine c.mono ?_
 rintro e w2 ⟨rfl,hw2,hk2⟩
 replace HF:=hid (HF.out.step hw2 hk2)
 clear c hw2 hk2 p0 p1 p2 p3 p4 pf
 obtain ⟨⟨p0,p1,p2,p3,p4⟩,pf⟩:=J.cells_five HF.out.box
 have c:=write1 HF.out.wr ⟨#[91]⟩ [91] rfl (by (try simp only [List.length_append,List.length_cons,List.length_nil]);omega)
 go_wp2_with fail
 refine c.mono ?_
 rintro e w2 ⟨rfl,hw2,hk2⟩
 replace HF:=hid (HF.out.step hw2 hk2)
 clear c hw2 hk2 p0 p1 p2 p3 p4 pf
 obtain ⟨⟨p0,p1,p2,p3,p4⟩,pf⟩:=J.cells_five HF.out.box
 have c:Calls Tryz.prog 105 _ _ (Writes d m ind _ _ (showP ind (kidAt ks 1))):=kid_any (p:=.mk k t f e ks) 1 (hA.kid 1) HV.out HF.out.wr HF.out.lies hw hd (by decide) (by show _+(showP ind (kidAt ks 1)).length≤_;(try simp only [List.length_append,List.length_cons,List.length_nil]);omega)
 go_wp2_with fail
 refine c.mono ?_
 rintro e w2 ⟨rfl,hw2,hk2⟩
 replace HF:=hid (HF.out.step hw2 hk2)
 clear c hw2 hk2 p0 p1 p2 p3 p4 pf
 obtain ⟨⟨p0,p1,p2,p3,p4⟩,pf⟩:=J.cells_five HF.out.box
 have c:=write1 HF.out.wr ⟨#[93]⟩ [93] rfl (by (try simp only [List.length_append,List.length_cons,List.length_nil]);omega)
 go_wp2_with fail
 refine c.mono ?_
 rintro e w2 ⟨rfl,hw2,hk2⟩
 replace HF:=hid (HF.out.step hw2 hk2)
 clear c hw2 hk2 p0 p1 p2 p3 p4 pf
 obtain ⟨⟨p0,p1,p2,p3,p4⟩,pf⟩:=J.cells_five HF.out.box
 go_wp2_with fail
 go_end0
 exact ⟨rfl,by have:=HF.out.wr;simpa [List.append_assoc,ksP] using this,HF.out.kp⟩
end Go.Proofs.YtmclaaonlhnbmaaGreatDoor.H
