/- What the claim needs of the texts MTake5, MTake6. -/
import Derived.Test.YtpbnhnilfpoljaaGreatDoorRB21
namespace Go.Proofs.YtpbnhnilfpoljaaGreatDoor.M
open Go.RowKit
open Go.Lib Go.Proofs.YtpbnhnilfpoljaaGreatDoor.V
set_option maxHeartbeats 8000000 in
set_option maxRecDepth 20000 in
theorem tchange_any (v:Val) (lv kv:Value) (d:Nat) (b:Bool) (R:Nat→Prop) (w:World) (ht:Tk d b w) (hv:ValIn w R v lv kv) (hR:∀ g,R g→g≠d) (hw:wt v≤65536) :
  Calls Tryz.prog 98 #[.pointer (some ⟨d,0,none⟩),arg v lv kv] w fun e w'=>Took d (b||!changeOk v) w w'∧e=.returned (.agg (editC (changeAt v)).toArray):=by
 have hv':=hv
 obtain ⟨so,on,n,t,l,ks⟩:=v
 obtain ⟨⟨a1,c1,rfl,_⟩,⟨a2,c2,rfl,_⟩⟩:=hv'
 have hdl:=ht.lt
 have hvl:∀ W b',Took d b' w W→ValIn W R (.mk so on n t l ks) (.slice a1 l.length c1) (.slice a2 ks.length c2):=fun W b' hk=>hk.val hv hR
 have cT:=fun W b0 b' (hk:Took d b0 w W) (hb':Tk d b' W)=>ttext_any (.mk so on n t l ks) _ _ bText d b' R W hb' (hvl W b0 hk) hw
 have cH:=fun W g b0 b' (hk:Took d b0 w W) (hb':Tk d b' W) hs=>perhaps_any (.mk so on n t l ks) _ _ bRange [5] g 0 1 d b' R W hb' (hvl W b0 hk) hw hs (by simp) (by simp)
 rw [← need_change]
 have hwu:=getZ_wt2 [bRange] hw
 have hed:editC (changeAt (.mk so on n t l ks))=if hasP (.mk so on n t l ks) [bRange]=true then [.int .i64 (placeAt (getZ (.mk so on n t l ks) [bRange]) [bStart]).line,.int .i64 (placeAt (getZ (.mk so on n t l ks) [bRange]) [bStart]).unit,.int .i64 (placeAt (getZ (.mk so on n t l ks) [bRange]) [bEnd]).line,.int .i64 (placeAt (getZ (.mk so on n t l ks) [bRange]) [bEnd]).unit,strCell (textAt (.mk so on n t l ks) [bText]),.bool false] else [.int .i64 0,.int .i64 0,.int .i64 0,.int .i64 0,strCell (textAt (.mk so on n t l ks) [bText]),.bool true]:=by
  unfold changeAt
  rw [← (place_two _ bRange bStart).2,← (place_two _ bRange bEnd).2]
  split <;> rfl
 rw [hed]
 clear hed
 generalize isText (.mk so on n t l ks) [bText]=x1 at cT ⊢
 generalize textAt (.mk so on n t l ks) [bText]=T at cT ⊢
 generalize badP (.mk so on n t l ks) bRange [5]=x2 at cH ⊢
 generalize hasP (.mk so on n t l ks) [bRange]=h at cH ⊢
 generalize getZ (.mk so on n t l ks) [bRange]=u at cH hwu ⊢
 have cS:=fun W lv kv b' (hk:Tk d b' W) (hv:ValIn W (fun g=>g≠d) u lv kv)=>tplace_any u lv kv bStart d b' (fun g=>g≠d) W hk hv hwu
 have cE:=fun W lv kv b' (hk:Tk d b' W) (hv:ValIn W (fun g=>g≠d) u lv kv)=>tplace_any u lv kv bEnd d b' (fun g=>g≠d) W hk hv hwu
 generalize placeOk u [bStart]=x3 at cS ⊢
 generalize placeOk u [bEnd]=x4 at cE ⊢
 generalize placeAt u [bStart]=ps at cS ⊢
 generalize placeAt u [bEnd]=pe at cE ⊢
 obtain ⟨sl,su⟩:=ps
 obtain ⟨el,eu⟩:=pe
 obtain ⟨so',on',n',t',l',ks'⟩:=u
 simp only [arg,six',six,strCell,bText,bRange,bStart,bEnd,List.length_cons,List.length_nil,Nat.zero_add] at cT cH cS cE ⊢
 clear hwu hvl hv
 generalize l.length=m1 at cT cH ⊢
 generalize ks.length=m2 at cT cH ⊢
 obtain ⟨h1,h2,h3,h4⟩:=three w (.cells #[.int .i64 so,.bool on,.int .i64 n,.string ⟨t.toArray⟩,.slice a1 m1 c1,.slice a2 m2 c2] 36) (.cells #[.int .i64 0,.int .i64 0,.int .i64 0,.int .i64 0,.string ⟨#[]⟩,.bool false] 84) (.cells #[.int .i64 0,.int .i64 0,.int .i64 0,.int .i64 0,.string ⟨#[]⟩,.bool false] 84)
 obtain ⟨W3,hW3⟩:∃ W3,((w.alloc (.cells #[.int .i64 so,.bool on,.int .i64 n,.string ⟨t.toArray⟩,.slice a1 m1 c1,.slice a2 m2 c2] 36)).alloc (.cells #[.int .i64 0,.int .i64 0,.int .i64 0,.int .i64 0,.string ⟨#[]⟩,.bool false] 84)).alloc (.cells #[.int .i64 0,.int .i64 0,.int .i64 0,.int .i64 0,.string ⟨#[]⟩,.bool false] 84)=W3:=⟨_,rfl⟩
 rw [hW3] at h1 h2 h3 h4
 obtain ⟨⟨q0,q1,q2,q3,q4,q5⟩,qf⟩:=cells_six h1
 have hz3:w.heap.size+3≤W3.heap.size:=by have:=h4.2;omega
 have hb3:Below w.heap.size w W3:=h4.1
 have HK3:=Lib.hid (Took.start ht hb3)
 have HBX:=Lib.hid h1
 have HRS:=Lib.hid (show Ed (w.heap.size+1) 0 0 0 0 [] false W3 from h2)
 have HEE:=Lib.hid (show Ed (w.heap.size+1+1) 0 0 0 0 [] false W3 from h3)
 have CT:=Lib.hid (cT W3 b b HK3.out HK3.out.2)
 have CH:=Lib.hid cH
 have CS:=Lib.hid cS
 have CE:=Lib.hid cE
 clear h1 h2 h3 h4 hb3 cT cH cS cE
 go_enter Tryz.func98,Tryz.ntmps98
 go_wp2_with fail
 refine CT.out.mono ?_
 rintro e w4 ⟨hk4,rfl⟩
 have hz4:=hk4.size
 have hx4:=(hk4.1.block w.heap.size (by omega) (by omega)).trans HBX.out
 have hr4:=HRS.out.took hk4 (by omega)
 have he4:=HEE.out.took hk4 (by omega)
 have hK4:=HK3.out.trans hk4
 obtain ⟨⟨_,_,_,_,e4,_⟩,ef⟩:=ed_cells he4
 have e4f:=ef 4
 obtain ⟨W5,hW5⟩:∃ W5,w4.setCell ⟨w.heap.size+1+1,4,none⟩ (.string ⟨T.toArray⟩)=W5:=⟨_,rfl⟩
 have hx5:W5.heap[w.heap.size]?=some (.cells #[.int .i64 so,.bool on,.int .i64 n,.string ⟨t.toArray⟩,.slice a1 m1 c1,.slice a2 m2 c2] 36 (0,0)):=by rw [← hW5];exact (Below.heap_setCell _ _ _ _ (by show w.heap.size≠w.heap.size+1+1;omega)).trans hx4
 have hr5:Ed (w.heap.size+1) 0 0 0 0 [] false W5:=by rw [← hW5];exact (Below.heap_setCell _ _ _ _ (by show w.heap.size+1≠w.heap.size+1+1;omega)).trans hr4
 have he5:Ed (w.heap.size+1+1) 0 0 0 0 T false W5:=by rw [← hW5];exact he4.setT T
 have hK5:Took d (b||!x1) w W5:=by rw [← hW5];exact hK4.set _ _ _ (by omega) hdl
 have hz5:w4.heap.size≤W5.heap.size:=by rw [← hW5,sc_size];omega
 clear q0 q1 q2 q3 q4 q5 qf CT hx4 hr4 he4 hK4 hk4 ef HK3 HBX HRS HEE hW3
 obtain ⟨⟨q0,q1,q2,q3,q4,q5⟩,qf⟩:=cells_six hx5
 have CH5:=Lib.hid (CH.out (W5.alloc (.cells #[.int .i64 5] 22)) W5.heap.size _ _ (hK5.alloc _) (hK5.alloc _).2 (cells_of_block (heap_alloc_new W5 _)))
 have HK5:=Lib.hid (hK5.alloc (.cells #[.int .i64 5] 22))
 have HR5:=Lib.hid (hr5.alloc (.cells #[.int .i64 5] 22))
 have HE5:=Lib.hid (he5.alloc (.cells #[.int .i64 5] 22))
 clear CH hx5 hr5 he5 hK5
 go_wp2_with fail
 refine CH5.out.mono ?_
 rintro e w6 ⟨hk6,lv',kv',rfl,hv6⟩
 have hv7:=hv6
 obtain ⟨⟨a3,c3,rfl,_⟩,⟨a4,c4,rfl,_⟩⟩:=hv7
 have hz6:=hk6.size
 simp only [World.size_alloc] at hz6 hv6
 have hr6:=HR5.out.took hk6 (by omega)
 have he6:=HE5.out.took hk6 (by omega)
 have hK6:=HK5.out.trans hk6
 clear q0 q1 q2 q3 q4 q5 qf CH5 HK5 HR5 HE5 hk6 e4 e4f hW5
 obtain ⟨W7,hW7⟩:∃ W7,w6.alloc (.cells #[.int .i64 so',.bool on',.int .i64 n',.string ⟨t'.toArray⟩,.slice a3 l'.length c3,.slice a4 ks'.length c4] 36)=W7:=⟨_,rfl⟩
 have hx7:W7.heap[w6.heap.size]?=some (.cells #[.int .i64 so',.bool on',.int .i64 n',.string ⟨t'.toArray⟩,.slice a3 l'.length c3,.slice a4 ks'.length c4] 36 (0,0)):=by rw [← hW7];exact heap_alloc_new _ _
 have hr7:Ed (w.heap.size+1) 0 0 0 0 [] false W7:=by rw [← hW7];exact hr6.alloc _
 have he7:Ed (w.heap.size+1+1) 0 0 0 0 T false W7:=by rw [← hW7];exact he6.alloc _
 have hK7:Took d ((b||!x1)||x2) w W7:=by rw [← hW7];exact hK6.alloc _
 have hv7:ValIn W7 (fun g=>w.heap.size+3≤g) (.mk so' on' n' t' l' ks') (.slice a3 l'.length c3) (.slice a4 ks'.length c4):=by rw [← hW7];exact ValIn.later (fun _ _ _=>rfl) (fun g hg=>by omega) _ _ _ (val_below hv6 ((Below.refl _ _).alloc (Nat.le_refl _) _))
 have hz7:w6.heap.size<W7.heap.size:=by rw [← hW7];simp
 have hdp:w6.heap.size≠d:=by omega
 obtain ⟨⟨q0,q1,q2,q3,q4,q5⟩,qf⟩:=cells_six hx7
 clear hr6 he6 hK6 hv6
 cases h with
 | false =>
  obtain ⟨⟨_,_,_,_,_,e5⟩,ef⟩:=ed_cells he7
  have e5f:=ef 5
  obtain ⟨W8,hW8⟩:∃ W8,W7.setCell ⟨w.heap.size+1+1,5,none⟩ (.bool true)=W8:=⟨_,rfl⟩
  have hr8:Ed (w.heap.size+1) 0 0 0 0 [] false W8:=by rw [← hW8];exact (Below.heap_setCell _ _ _ _ (by show w.heap.size+1≠w.heap.size+1+1;omega)).trans hr7
  have he8:Ed (w.heap.size+1+1) 0 0 0 0 T true W8:=by rw [← hW8];exact he7.setW true
  have hK8:Took d ((b||!x1)||x2) w W8:=by rw [← hW8];exact hK7.set _ _ _ (by omega) hdl
  obtain ⟨⟨j0,j1,j2,j3,j4,j5⟩,jf⟩:=ed_cells hr8
  obtain ⟨⟨k0,k1,k2,k3,k4,k5⟩,kf⟩:=ed_cells he8
  have HKF:=Lib.hid ((((((hK8.set (w.heap.size+1) 0 (.int .i64 0) (by omega) hdl).set (w.heap.size+1) 1 (.int .i64 0) (by omega) hdl).set (w.heap.size+1) 2 (.int .i64 0) (by omega) hdl).set (w.heap.size+1) 3 (.int .i64 0) (by omega) hdl).set (w.heap.size+1) 4 (.string ⟨T.toArray⟩) (by omega) hdl).set (w.heap.size+1) 5 (.bool true) (by omega) hdl)
  clear hr7 he7 hK7 hr8 he8 hK8 ef hx7 hv7
  go_wp2_with fail
  refine bodyPost_ret (v:=.agg #[.int .i64 0,.int .i64 0,.int .i64 0,.int .i64 0,.string ⟨T.toArray⟩,.bool true]) (by simp [results,Tryz.results98,go_sem,j0,j1,j2,j3,j4,j5]) rfl ?_
  exact ⟨by simpa using HKF.out,by simp⟩
 | true =>
  have CS7:=Lib.hid (CS.out W7 _ _ _ hK7.2 (ValIn.later (fun _ _ _=>rfl) (fun g hg=>by omega) _ _ _ hv7))
  have HX7:=Lib.hid hx7
  have HR7:=Lib.hid hr7
  have HE7:=Lib.hid he7
  have HK7:=Lib.hid hK7
  have HV7:=Lib.hid hv7
  clear hx7 hr7 he7 hK7 hv7 CS
  go_wp2_with fail
  refine CS7.out.mono ?_
  rintro e w8 ⟨hk8,rfl⟩
  have hz8:=hk8.size
  have hx8:=(hk8.1.block w6.heap.size (by omega) hdp).trans HX7.out
  have hr8:=HR7.out.took hk8 (by omega)
  have he8:=HE7.out.took hk8 (by omega)
  have hK8:=HK7.out.trans hk8
  have hv8:=hk8.val HV7.out (fun g hg=>by omega)
  obtain ⟨⟨e0,e1,_,_,_,_⟩,ef⟩:=ed_cells he8
  have e0f:=ef 0
  have e1f:=ef 1
  obtain ⟨W9,hW9⟩:∃ W9,(w8.setCell ⟨w.heap.size+1+1,0,none⟩ (.int .i64 sl)).setCell ⟨w.heap.size+1+1,1,none⟩ (.int .i64 su)=W9:=⟨_,rfl⟩
  have far9:∀ k,k≠w.heap.size+1+1→W9.heap[k]?=w8.heap[k]?:=fun k hk=>by rw [← hW9,Below.heap_setCell _ _ _ _ hk,Below.heap_setCell _ _ _ _ hk]
  have hx9:=(far9 w6.heap.size (by omega)).trans hx8
  have hr9:Ed (w.heap.size+1) 0 0 0 0 [] false W9:=(far9 _ (by omega)).trans hr8
  have he9:Ed (w.heap.size+1+1) sl su 0 0 T false W9:=by rw [← hW9];exact he8.setF sl su
  have hK9:Took d (((b||!x1)||x2)||!x3) w W9:=by rw [← hW9];exact (hK8.set _ _ _ (by omega) hdl).set _ _ _ (by omega) hdl
  have hv9:ValIn W9 (fun g=>w.heap.size+3≤g) (.mk so' on' n' t' l' ks') (.slice a3 l'.length c3) (.slice a4 ks'.length c4):=ValIn.later (fun g hg _=>far9 g (by omega)) (fun _ h=>h) _ _ _ hv8
  have CE9:=Lib.hid (CE.out W9 _ _ _ hK9.2 (ValIn.later (fun _ _ _=>rfl) (fun g hg=>by omega) _ _ _ hv9))
  have HR9:=Lib.hid hr9
  have HE9:=Lib.hid he9
  have HK9:=Lib.hid hK9
  have hz9:w8.heap.size≤W9.heap.size:=by rw [← hW9,sc_size,sc_size];omega
  clear q0 q1 q2 q3 q4 q5 qf CS7 HX7 HR7 HE7 HK7 HV7 hx8 hr8 he8 hK8 hv8 hk8 ef far9 hr9 he9 hK9 hv9 CE hW7
  obtain ⟨⟨q0,q1,q2,q3,q4,q5⟩,qf⟩:=cells_six hx9
  clear hx9
  go_wp2_with fail
  refine CE9.out.mono ?_
  rintro e w10 ⟨hk10,rfl⟩
  have hz10:=hk10.size
  have hr10:=HR9.out.took hk10 (by omega)
  have he10:=HE9.out.took hk10 (by omega)
  have hK10:=HK9.out.trans hk10
  obtain ⟨⟨_,_,e2,e3,_,_⟩,ef⟩:=ed_cells he10
  have e2f:=ef 2
  have e3f:=ef 3
  obtain ⟨W11,hW11⟩:∃ W11,(w10.setCell ⟨w.heap.size+1+1,2,none⟩ (.int .i64 el)).setCell ⟨w.heap.size+1+1,3,none⟩ (.int .i64 eu)=W11:=⟨_,rfl⟩
  have far11:∀ k,k≠w.heap.size+1+1→W11.heap[k]?=w10.heap[k]?:=fun k hk=>by rw [← hW11,Below.heap_setCell _ _ _ _ hk,Below.heap_setCell _ _ _ _ hk]
  have hr11:Ed (w.heap.size+1) 0 0 0 0 [] false W11:=(far11 _ (by omega)).trans hr10
  have he11:Ed (w.heap.size+1+1) sl su el eu T false W11:=by rw [← hW11];exact he10.setE el eu
  have hK11:Took d ((((b||!x1)||x2)||!x3)||!x4) w W11:=by rw [← hW11];exact (hK10.set _ _ _ (by omega) hdl).set _ _ _ (by omega) hdl
  obtain ⟨⟨j0,j1,j2,j3,j4,j5⟩,jf⟩:=ed_cells hr11
  obtain ⟨⟨k0,k1,k2,k3,k4,k5⟩,kf⟩:=ed_cells he11
  have HKF:=Lib.hid ((((((hK11.set (w.heap.size+1) 0 (.int .i64 sl) (by omega) hdl).set (w.heap.size+1) 1 (.int .i64 su) (by omega) hdl).set (w.heap.size+1) 2 (.int .i64 el) (by omega) hdl).set (w.heap.size+1) 3 (.int .i64 eu) (by omega) hdl).set (w.heap.size+1) 4 (.string ⟨T.toArray⟩) (by omega) hdl).set (w.heap.size+1) 5 (.bool false) (by omega) hdl)
  clear q0 q1 q2 q3 q4 q5 qf CE9 HR9 HE9 HK9 hr10 he10 hK10 hk10 ef far11 hr11 he11 hK11 hW9 e0 e1 e0f e1f
  go_wp2_with fail
  refine bodyPost_ret (v:=.agg #[.int .i64 sl,.int .i64 su,.int .i64 el,.int .i64 eu,.string ⟨T.toArray⟩,.bool false]) (by simp [results,Tryz.results98,go_sem,j0,j1,j2,j3,j4,j5]) rfl ?_
  exact ⟨by simpa using HKF.out,by simp⟩
end Go.Proofs.YtpbnhnilfpoljaaGreatDoor.M
namespace Go.Proofs.YtpbnhnilfpoljaaGreatDoor.M
open Go.RowKit
open Go.Lib Go.Proofs.YtpbnhnilfpoljaaGreatDoor.V
theorem infoE:(Tryz.prog.info? 84).map (fun i=>(i.zero,i.size,i.bytes))=some (some (.agg #[.int .i64 0,.int .i64 0,.int .i64 0,.int .i64 0,.string ⟨#[]⟩,.bool false]),6,56):=by kernel_rfl
theorem need_changes (p:Val) (b:Bool):((b||needP p bChanges [4])||!((listOf (getZ p [bChanges])).all changeOk))=(b||!changesOk p):=by
 unfold changesOk needP badP
 cases hh:hasP p [bChanges] with
 | false=>cases b <;> simp
 | true =>
  have e:(sortOf (getZ p [bChanges])==4)=decide (sortOf (getZ p [bChanges])∈([4]:List Int)):=by rw [Bool.eq_iff_iff];simp
  rw [e]
  cases b <;> cases decide (sortOf (getZ p [bChanges])∈([4]:List Int)) <;> simp
structure TcSt (l:List Val) (d:Nat) (b0:Bool) (av:Value) (i:Nat) (w w5 wr:World):Prop where
 took:Took d (b0||!((l.take i).all changeOk)) w wr
 own:wr.ownsRow w5.heap.size 84 6 av i (editCs ((l.take i).map changeAt))
 mt:Mut w5.heap.size d w5 wr
theorem tc_step {l:List Val} {d i gg capg:Nat} {b0:Bool} {av:Value} {w w5 wr w2 w3:World} {P zo:Obj} (hst:TcSt l d b0 av i w w5 wr) (hi:i<l.length) (h5:w.heap.size≤w5.heap.size) (hd:d<w.heap.size)
  (hk:Took d ((b0||!((l.take i).all changeOk))||!changeOk l[i]) (wr.alloc P) w2) (hgrow:(w2.alloc zo).grownBy w3 av.ownBlock)
  (hown:w3.ownsRow w5.heap.size 84 6 (.slice (some ⟨gg,0,none⟩) (i+1) capg) (i+1) (editCs ((l.take i).map changeAt)++editC (changeAt l[i]))) :
  TcSt l d b0 (.slice (some ⟨gg,0,none⟩) (i+1) capg) (i+1) w w5 w3:=by
 have hrow:∀ k,av.ownBlock=some k→w5.heap.size≤k:=fun k hk=>(row_lt hst.own k hk).1
 have hz1:=hk.size
 have hz0:=hst.mt.size
 simp only [World.size_alloc] at hz1
 have hs3:=hgrow.size
 simp only [World.size_alloc] at hs3
 have far:∀ k,k<w5.heap.size→w3.heap[k]?=w2.heap[k]?:=fun k hk=>by
  rw [hgrow.block k (by simp;omega) (fun h=>by have:=hrow k h.symm;omega),Below.heap_alloc _ _ k (by omega)]
 have hm:Mut w5.heap.size d w5 w3:=(hst.mt.trans ((Mut.alloc (Mut.refl _ _ _) (by omega) P).trans (hk.1.mono (by simp;omega)))).trans ⟨hgrow.os,hgrow.tape,hgrow.output,by omega,fun k hk _=>far k hk⟩
 have e:((b0||!((l.take i).all changeOk))||!changeOk l[i])=(b0||!((l.take (i+1)).all changeOk)):=by
  rw [List.take_succ_eq_append_getElem hi,List.all_append]
  cases b0 <;> cases (l.take i).all changeOk <;> simp
 refine ⟨⟨?_,?_⟩,?_,hm⟩
 ·exact (hst.took.1.trans ((Mut.alloc (Mut.refl _ _ _) (by omega) P).trans (hk.1.mono (by simp;omega)))).trans ⟨hgrow.os,hgrow.tape,hgrow.output,by omega,fun k hk _=>far k (by omega)⟩
 ·rw [← e]
  exact (far d (by omega)).trans hk.2
 ·rw [List.take_succ_eq_append_getElem hi,List.map_append,List.map_singleton,editCs_snoc]
  exact hown
set_option maxHeartbeats 8000000 in
set_option maxRecDepth 20000 in
theorem tchanges_any (v:Val) (lv kv:Value) (d:Nat) (b:Bool) (R:Nat→Prop) (w:World) (ht:Tk d b w) (hv:ValIn w R v lv kv) (hw:wt v≤65536) :
  Calls Tryz.prog 72 #[.pointer (some ⟨d,0,none⟩),arg v lv kv,.string ⟨bChanges.toArray⟩] w fun e w'=>Took d (b||!changesOk v) w w'∧∃ a c,e=.returned (.slice a (changesAt v).length c)∧EditsIn w' (fun g=>w.heap.size≤g) (changesAt v) (.slice a (changesAt v).length c):=by
 obtain ⟨i0,hi0,hz0,hz1,hz2⟩:=info_parts infoE
 have hv':=hv
 obtain ⟨so,on,n,t,l,ks⟩:=v
 obtain ⟨⟨a1,c1,rfl,_⟩,⟨a2,c2,rfl,_⟩⟩:=hv'
 have hdl:=ht.lt
 have cP:=fun W g (hb:Below w.heap.size w W) hs=>part_any (.mk so on n t l ks) _ _ bChanges [4] g 0 1 d b R W (ht.below hb) (val_below hv hb) hw hs (by simp) (by simp)
 rw [← need_changes]
 unfold changesAt
 have hwu:=getZ_wt2 [bChanges] hw
 generalize needP (.mk so on n t l ks) bChanges [4]=m at cP ⊢
 generalize getZ (.mk so on n t l ks) [bChanges]=u at cP hwu ⊢
 obtain ⟨so',on',n',t',l',ks'⟩:=u
 simp only [arg,six',six,strCell,listOf,List.length_cons,List.length_nil,Nat.zero_add,List.length_map] at cP ⊢
 have hwl:wtL l'≤65536:=by simp only [wt] at hwu;omega
 have hll:l'.length≤65536:=Nat.le_trans (wtL_length l') hwl
 have HWM:=Lib.hid (fun v (h:v∈l')=>Nat.le_trans (wtL_mem h) hwl)
 generalize l.length=m1 at cP ⊢
 generalize ks.length=m2 at cP ⊢
 obtain ⟨W2,hW2⟩:∃ W2,w.alloc (.cells #[.int .i64 so,.bool on,.int .i64 n,.string ⟨t.toArray⟩,.slice a1 m1 c1,.slice a2 m2 c2] 36)=W2:=⟨_,rfl⟩
 have h1:W2.heap[w.heap.size]?=some (.cells #[.int .i64 so,.bool on,.int .i64 n,.string ⟨t.toArray⟩,.slice a1 m1 c1,.slice a2 m2 c2] 36 (0,0)):=by rw [← hW2];exact heap_alloc_new _ _
 have h3:Below w.heap.size w W2:=by rw [← hW2];exact (Below.refl _ _).alloc (Nat.le_refl _) _
 have hb3:Below w.heap.size w (W2.alloc (.cells #[.int .i64 4] 22)):=h3.alloc h3.size _
 have CP:=Lib.hid (cP (W2.alloc (.cells #[.int .i64 4] 22)) W2.heap.size hb3 (cells_of_block (heap_alloc_new W2 _)))
 have HB3:=Lib.hid hb3
 obtain ⟨⟨q0,q1,q2,q3,q4,q5⟩,qf⟩:=cells_six h1
 have hz2':w.heap.size<W2.heap.size:=by rw [← hW2];simp
 simp only [bChanges] at CP ⊢
 clear h1 h3 hb3 cP ht hv hwu hw hwl
 go_enter Tryz.func72,Tryz.ntmps72
 go_wp2_with fail
 refine CP.out.mono ?_
 rintro e w5 ⟨hk5,lv',kv',rfl,hv5⟩
 have hz5:=hk5.size
 simp only [World.size_alloc] at hz5 hv5
 have hvb:=ValIn.later (R':=fun g=>(w.heap.size≤g)∧g<w5.heap.size) (fun _ _ _=>rfl) (fun g hg=>by omega) _ _ _ (ValIn.bound _ _ _ hv5)
 obtain ⟨⟨a3,c3,rfl,hL⟩,⟨a4,c4,rfl,_⟩⟩:=hvb
 have HL:=Lib.hid hL
 have HST:Hid (TcSt l' d (b||m) (.slice none 0 0) 0 w w5 w5):=Lib.hid ⟨by simpa using Took.of_below HB3.out hk5,World.ownsRow_nil _ _ _ _,Mut.refl _ _ _⟩
 have hw5:w.heap.size≤w5.heap.size:=by omega
 have hf:=field_list
 obtain ⟨ln,hln⟩:∃ k,l'.length=k:=⟨_,rfl⟩
 have HLN:=Lib.hid hln
 rw [hln] at hll ⊢
 clear q0 q1 q2 q3 q4 q5 qf CP HB3 hk5 hv5 hL hln hW2
 go_wp2_with fail
 go_loopw [7,17] (fun av iv wr=>∃ (i:Nat) (ao:Option Addr) (cap:Nat),iv=.int .i64 i∧av=.slice ao i cap∧i≤ln∧Hid (TcSt l' d (b||m) (.slice ao i cap) i w w5 wr)) (fun _ iv _=>ln - (Go.RowKit.intOf iv).toNat)
 case atStart=>exact ⟨0,none,0,rfl,rfl,by omega,HST⟩
 case round =>
  obtain ⟨i,ao,cap,rfl,rfl,hi,HI⟩:=hrel
  by_cases hlt:i<ln
  ·have hil:i<l'.length:=by rw [HLN.out];exact hlt
   obtain ⟨g,off,xs,rfl,hg,hc,hLi⟩:=HL.out.resolve_left (fun h=>by rw [h] at hil;exact Nat.not_lt_zero _ hil)
   have hsm:Same (fun g=>w.heap.size≤g∧g<w5.heap.size) w5 wr:=fun k hk _=>HI.out.mt.block k hk.2 (by omega)
   obtain ⟨so2,on2,n2,t2,l2,ks2,b1,e1,b2,e2,he,hv2,j0,j1,j2,j3,j4,j5⟩:=part_at i (ListIn.later hsm (fun _ h=>h) l' xs hLi) (hc.later hg hsm) hil
   have hzr:=HI.out.mt.size
   obtain ⟨W1,hW1⟩:∃ W1,wr.alloc (.cells #[.int .i64 so2,.bool on2,.int .i64 n2,.string ⟨t2.toArray⟩,.slice b1 l2.length e1,.slice b2 ks2.length e2] 36)=W1:=⟨_,rfl⟩
   have hx1:W1.heap[wr.heap.size]?=some (.cells #[.int .i64 so2,.bool on2,.int .i64 n2,.string ⟨t2.toArray⟩,.slice b1 l2.length e1,.slice b2 ks2.length e2] 36 (0,0)):=by rw [← hW1];exact heap_alloc_new _ _
   have hb1:Below wr.heap.size wr W1:=by rw [← hW1];exact (Below.refl _ _).alloc (Nat.le_refl _) _
   have hzW:wr.heap.size<W1.heap.size:=by rw [← hW1];simp
   have cC:=tchange_any l'[i] (.slice b1 l2.length e1) (.slice b2 ks2.length e2) d _ (fun g=>w.heap.size≤g∧g<w5.heap.size) W1 (HI.out.took.2.below hb1) (by rw [he];exact val_below hv2 hb1) (fun g hg=>by omega) (HWM.out _ (List.getElem_mem hil))
   have hown1:W1.ownsRow w5.heap.size 84 6 (.slice ao i cap) i (editCs ((l'.take i).map changeAt)):=by rw [← hW1];exact HI.out.own.alloc _
   have hrow:=row_lt hown1
   have ee:arg l'[i] (.slice b1 l2.length e1) (.slice b2 ks2.length e2)=.agg #[.int .i64 so2,.bool on2,.int .i64 n2,.string ⟨t2.toArray⟩,.slice b1 l2.length e1,.slice b2 ks2.length e2]:=by rw [he];rfl
   rw [ee] at cC
   obtain ⟨E,hE⟩:∃ E,changeAt l'[i]=E:=⟨_,rfl⟩
   rw [hE] at cC
   have HE:=Lib.hid hE
   have CC:=Lib.hid cC
   have HO1:=Lib.hid hown1
   have HW1:=Lib.hid hW1
   obtain ⟨⟨q0,q1,q2,q3,q4,q5⟩,qf⟩:=cells_six hx1
   clear hsm he hv2 hx1 cC hown1 ee hE hb1
   go_wp2_with fail
   refine CC.out.mono ?_
   rintro e w2 ⟨hk2,rfl⟩
   have hz22:=hk2.size
   have hown2:w2.ownsRow w5.heap.size 84 6 (.slice ao i cap) i (editCs ((l'.take i).map changeAt)):=ownsRow_same HO1.out fun k hk=>hk2.1.block k (hrow k hk).2 (by have:=hrow k hk;omega)
   have HK2:=Lib.hid hk2
   obtain ⟨⟨fl,fu⟩,⟨tl,tu⟩,tx,wh⟩:=E
   have hone:=editC_one ⟨⟨fl,fu⟩,⟨tl,tu⟩,tx,wh⟩
   simp only [editC,strCell] at hone ⊢
   clear q0 q1 q2 q3 q4 q5 qf j0 j1 j2 j3 j4 j5 CC HO1 hk2 hW1
   go_wp2_with (at_builtin;refine wpList_append_lies _ rfl (.tmp 21) (.tmp 25) 41 rfl w5.heap.size 84 i0 _ 6 56 Tryz.underlying41 hi0 hz0 hz1 hz2 rfl (by decide) (.slice ao i cap) i _ rfl (hown2.alloc _) ⟨w2.heap.size,0,none⟩ 1 1 [.int .i64 fl,.int .i64 fu,.int .i64 tl,.int .i64 tu,.string ⟨tx.toArray⟩,.bool wh] rfl rfl (World.news_of_block (cs:=#[.int .i64 fl,.int .i64 fu,.int .i64 tl,.int .i64 tu,.string ⟨tx.toArray⟩,.bool wh]) (t:=84) (fr:=(0,0)) (heap_alloc_new w2 _)) hone (by omega) (by unfold maxLen;omega) (by omega) (by simp;omega) (w2.heap.size+1) (by simp) ?_)
   intro gg capg w3 hown3 hgrow hat hlt3
   have hfin:=tc_step HI.out hil hw5 hdl (by rw [HW1.out];exact HK2.out) hgrow (by rw [HE.out,List.map_take];exact hown3)
   have HFIN:=Lib.hid hfin
   clear hfin hown3 hgrow hown2 hone
   go_wp2_with fail
   go_roundw
   case rel=>exact ⟨i+1,some ⟨gg,0,none⟩,capg,by go_num,rfl,by omega,HFIN⟩
   case measure=>simp [Go.RowKit.intOf];omega
  ·obtain rfl:i=ln:=by omega
   have hst:=HI.out
   have hk:=hst.took
   have ho:=hst.own
   rw [List.take_of_length_le (by rw [HLN.out];omega)] at hk ho
   have HK:=Lib.hid hk
   have HO:=Lib.hid ho
   clear hst hk ho
   go_wp2_with fail
   go_ret
   refine ⟨HK.out,ao,cap,by rw [HLN.out];rfl,ao,cap,by rw [List.length_map,HLN.out],?_⟩
   rcases HO.out.2 with ⟨g1,g2⟩|⟨g,cp,cur,g1,hg,hgg,hle,hcap,hsz,htake⟩
   ·refine .inl ?_
    have:l'=[]:=List.eq_nil_of_length_eq_zero (by rw [HLN.out];exact g2)
    rw [this];rfl
   ·cases g1
    exact .inr ⟨g,0,rfl,by omega,cells_of_own HO.out⟩
end Go.Proofs.YtpbnhnilfpoljaaGreatDoor.M
