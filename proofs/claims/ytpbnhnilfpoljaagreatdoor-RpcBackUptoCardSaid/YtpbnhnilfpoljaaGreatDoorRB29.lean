/- What the claim needs of the texts MRead5, MRead6. -/
import Derived.Test.YtpbnhnilfpoljaaGreatDoorRB25
namespace Go.Proofs.YtpbnhnilfpoljaaGreatDoor.M
open Go.RowKit
open Go.Lib Go.Proofs.YtpbnhnilfpoljaaGreatDoor.V
set_option maxHeartbeats 8000000 in
set_option maxRecDepth 20000 in
theorem call_5 (nm:ByteArray) (ask:Bool) (p:Val) (lv kv:Value) (R:Nat→Prop) (w:World) (hv0:ValIn w R p lv kv) (hw:wt p≤65536) :
  Calls Tryz.prog 40 #[.agg #[.int .i64 5,.string nm,.bool ask,.bool true],arg p lv kv] w (CallsP 5 p w):=by
 have hv:ValIn w (fun g=>g<w.heap.size) p lv kv:=(ValIn.bound _ _ _ hv0).later (fun _ _ _=>rfl) (fun _ h=>h.2) _ _ _
 have hv':=hv
 obtain ⟨so,on,n,t,l,ks⟩:=p
 obtain ⟨⟨a1,c1,rfl,_⟩,⟨a2,c2,rfl,_⟩⟩:=hv'
 have hwu:wt (getZ (.mk so on n t l ks) [bDoc])≤65536:=getZ_wt2 [bDoc] hw
 have cD:=fun W g d b (hb:Below w.heap.size w W) (hk:Tk d b W) hs=>part_any (.mk so on n t l ks) _ _ bDoc [5] g 0 1 d b _ W hk (val_below hv hb) hw hs (by simp) (by simp)
 have cU:=fun W d b lv kv R (hk:Tk d b W) (hv:ValIn W R (getZ (.mk so on n t l ks) [bDoc]) lv kv)=>ttext_any (getZ (.mk so on n t l ks) [bDoc]) lv kv bUri d b R W hk hv hwu
 have cV:=fun W d b lv kv R (hk:Tk d b W) (hv:ValIn W R (getZ (.mk so on n t l ks) [bDoc]) lv kv)=>tnum_any (getZ (.mk so on n t l ks) [bDoc]) lv kv bVersion d b R W hk hv hwu
 have cC:=fun W d b (hb:Below w.heap.size w W) (hk:Tk d b W)=>tchanges_any (.mk so on n t l ks) _ _ d b _ W hk (val_below hv hb) hw
 have hpar:paramsP 5 zV (.mk so on n t l ks)=⟨5,zV,textAt (getZ (.mk so on n t l ks) [bDoc]) [bUri],numAt (getZ (.mk so on n t l ks) [bDoc]) [bVersion],[],changesAt (.mk so on n t l ks),p0,zV⟩:=by
  unfold paramsP
  rw [if_neg (by decide),if_neg (by decide)]
  simp [(text_two (.mk so on n t l ks) bDoc bUri).2,(num_two (.mk so on n t l ks) bDoc bVersion).2]
 have hwr:(!((((false||needP (.mk so on n t l ks) bDoc [5])||!isText (getZ (.mk so on n t l ks) [bDoc]) [bUri])||!isNum (getZ (.mk so on n t l ks) [bDoc]) [bVersion])||!changesOk (.mk so on n t l ks)))=paramsOk 5 (.mk so on n t l ks):=by
  rw [need_in _ _ _ _ text_rec]
  unfold paramsOk
  rw [if_neg (by decide),if_neg (by decide)]
  simp [(text_two (.mk so on n t l ks) bDoc bUri).1,(num_two (.mk so on n t l ks) bDoc bVersion).1]
 generalize needP (.mk so on n t l ks) bDoc [5]=x0 at cD hwr
 generalize isText (getZ (.mk so on n t l ks) [bDoc]) [bUri]=x1 at cU hwr
 generalize textAt (getZ (.mk so on n t l ks) [bDoc]) [bUri]=y1 at cU hpar
 generalize isNum (getZ (.mk so on n t l ks) [bDoc]) [bVersion]=x2 at cV hwr
 generalize numAt (getZ (.mk so on n t l ks) [bDoc]) [bVersion]=y2 at cV hpar
 generalize changesOk (.mk so on n t l ks)=x3 at cC hwr
 generalize changesAt (.mk so on n t l ks)=y3 at cC hpar
 generalize (getZ (.mk so on n t l ks) [bDoc])=u at cD cU cV
 obtain ⟨dso,don,dn,dt,dl,dks⟩:=u
 have HPar:=Lib.hid hpar
 have HWr:=Lib.hid hwr
 clear hpar hwr hwu
 simp only [arg,six',six,strCell,bDoc,bUri,bVersion,bChanges,List.length_cons,List.length_nil,Nat.zero_add] at cD cU cV cC ⊢
 clear hv0 hv
 generalize l.length=m1 at cD cU cV cC ⊢
 generalize ks.length=m2 at cD cU cV cC ⊢
 have CD':=Lib.hid cD
 have CU':=Lib.hid cU
 have CV':=Lib.hid cV
 have CC':=Lib.hid cC
 clear cD cU cV cC
 obtain ⟨h1,h2,h3,h4⟩:=three w (.cells #[.int .i64 5,.string nm,.bool ask,.bool true] 73) (.cells #[.int .i64 so,.bool on,.int .i64 n,.string ⟨t.toArray⟩,.slice a1 m1 c1,.slice a2 m2 c2] 36) (.cells #[.int .i64 0,.int .i64 0,.bool false,.int .i64 0,.string ⟨#[]⟩,.slice none 0 0,.slice none 0 0,.string ⟨#[]⟩,.int .i64 0,.string ⟨#[]⟩,.slice none 0 0,.int .i64 0,.int .i64 0,.int .i64 0,.bool false,.int .i64 0,.string ⟨#[]⟩,.slice none 0 0,.slice none 0 0] 43)
 obtain ⟨W3,hW3⟩:∃ W3,((w.alloc (.cells #[.int .i64 5,.string nm,.bool ask,.bool true] 73)).alloc (.cells #[.int .i64 so,.bool on,.int .i64 n,.string ⟨t.toArray⟩,.slice a1 m1 c1,.slice a2 m2 c2] 36)).alloc (.cells #[.int .i64 0,.int .i64 0,.bool false,.int .i64 0,.string ⟨#[]⟩,.slice none 0 0,.slice none 0 0,.string ⟨#[]⟩,.int .i64 0,.string ⟨#[]⟩,.slice none 0 0,.int .i64 0,.int .i64 0,.int .i64 0,.bool false,.int .i64 0,.string ⟨#[]⟩,.slice none 0 0,.slice none 0 0] 43)=W3:=⟨_,rfl⟩
 rw [hW3] at h1 h2 h3 h4
 have q0:W3.cell? ⟨w.heap.size,0,none⟩=some (.int .i64 5):=by unfold World.cell?;rw [h1];rfl
 have hB3:Below w.heap.size w W3:=h4.1
 have hz3:w.heap.size+3≤W3.heap.size:=by have:=h4.2;omega
 have hR3:Cs (w.heap.size+1+1) zeroC W3:=h3
 obtain ⟨W4,hW4⟩:∃ W4,(W3.alloc (.cells #[.int .i64 0,.int .i64 0,.bool false,.int .i64 0,.string ⟨#[]⟩,.slice none 0 0,.slice none 0 0,.string ⟨#[]⟩,.int .i64 0,.string ⟨#[]⟩,.slice none 0 0,.int .i64 0,.int .i64 0,.int .i64 0,.bool false,.int .i64 0,.string ⟨#[]⟩,.slice none 0 0,.slice none 0 0] 43)).setRow W3.heap.size (kindC 5)=W4:=⟨_,rfl⟩
 have hC4:Cs W3.heap.size (kindC 5) W4:=by rw [← hW4];exact Cs.row (old:=zeroC) (heap_alloc_new _ _) _
 have hR4:Cs (w.heap.size+1+1) zeroC W4:=by rw [← hW4];exact (hR3.alloc _).row_ne (by omega) _
 have hB4:Below w.heap.size w W4:=by rw [← hW4];exact Below.setRow' (hB3.alloc hB3.size _) (by omega) _
 have hM4:W4.heap[w.heap.size]?=some (.cells #[.int .i64 5,.string nm,.bool ask,.bool true] 73 (0,0)):=by rw [← hW4,setRow_other _ _ _ _ (by omega),Below.heap_alloc _ _ _ (by omega)];exact h1
 have hX4:W4.heap[w.heap.size+1]?=some (.cells #[.int .i64 so,.bool on,.int .i64 n,.string ⟨t.toArray⟩,.slice a1 m1 c1,.slice a2 m2 c2] 36 (0,0)):=by rw [← hW4,setRow_other _ _ _ _ (by omega),Below.heap_alloc _ _ _ (by omega)];exact h2
 have hbd:=fun W=>build_call 5 W
 have hst:=fun (W:World) (g:Nat) h=>store_kind (k:=5) (W:=W) (g:=g) h
 obtain ⟨V0,hV0⟩:∃ V,Value.agg (kindC 5)=V:=⟨_,rfl⟩
 simp only [hV0] at hbd hst
 have HB:=Lib.hid hB4
 have HC:=Lib.hid hC4
 have HR:=Lib.hid hR4
 have HM:=Lib.hid hM4
 have HX:=Lib.hid hX4
 clear h1 h2 h3 h4 hR3 hB3 hC4 hR4 hB4 hM4 hX4
 go_enter Tryz.func40,Tryz.ntmps40
 go_upto_region 1 with fail
 iterate 7 go_step
 refine wpList_buildV rfl 43 [(0,.tmp 10)] rfl V0 (hbd _) ?_
 iterate 3 go_step
 refine wpList_storeV rfl rfl 43 (.tmp 6) (.tmp 11) rfl _ (hst _ _ (heap_alloc_new _ _)) ?_
 go_upto_region 2 with fail
 rw [hW4]
 clear hW4 hW3 q0 hbd hst hV0
 generalize W3.heap.size=g at HC hz3 ⊢
 have hrg:w.heap.size+1+1≠g:=by omega
 have hgl:=HC.out.lt
 have m3:W4.cell? ⟨w.heap.size,3,none⟩=some (.bool true):=by unfold World.cell?;rw [HM.out];rfl
 have hTK:=heap_alloc_new W4 (.cells #[.bool false] 133)
 obtain ⟨d,hd⟩:∃ d,W4.heap.size=d:=⟨_,rfl⟩
 obtain ⟨W5,hW5⟩:∃ W5,W4.alloc (.cells #[.bool false] 133)=W5:=⟨_,rfl⟩
 have HT5:=Lib.hid (show Tk d false W5 by rw [← hW5,← hd];exact hTK)
 have HB5:=Lib.hid (show Below w.heap.size w W5 by rw [← hW5];exact HB.out.alloc HB.out.size _)
 have HC5:=Lib.hid (show Cs g (kindC 5) W5 by rw [← hW5];exact HC.out.alloc _)
 have HR5:=Lib.hid (show Cs (w.heap.size+1+1) zeroC W5 by rw [← hW5];exact HR.out.alloc _)
 have HM5:=Lib.hid (show W5.heap[w.heap.size]?=some (.cells #[.int .i64 5,.string nm,.bool ask,.bool true] 73 (0,0)) by rw [← hW5,Below.heap_alloc _ _ _ (by omega)];exact HM.out)
 have HX5:=Lib.hid (show W5.heap[w.heap.size+1]?=some (.cells #[.int .i64 so,.bool on,.int .i64 n,.string ⟨t.toArray⟩,.slice a1 m1 c1,.slice a2 m2 c2] 36 (0,0)) by rw [← hW5,Below.heap_alloc _ _ _ (by omega)];exact HX.out)
 have m0:W5.cell? ⟨w.heap.size,0,none⟩=some (.int .i64 5):=by unfold World.cell?;rw [HM5.out];rfl
 have hz5:d<W5.heap.size:=HT5.out.lt
 rw [hd] at hgl
 clear HB HC HR HM HX hTK
 have HT:=HT5
 have HB:=HB5
 have HC:=HC5
 have HR:=HR5
 have HM:=HM5
 have HX:=HX5
 clear HT5 HB5 HC5 HR5 HM5 HX5
 obtain ⟨⟨p0',p1',p2',p3',p4',p5'⟩,pf⟩:=cells_six HX.out
 have CD5:=Lib.hid (CD'.out (W5.alloc (.cells #[.int .i64 5] 22)) W5.heap.size d false (HB.out.alloc HB.out.size _) (HT.out.below ((Below.refl _ _).alloc (Nat.le_refl _) _)) (cells_of_block (heap_alloc_new W5 _)))
 have HC6:=Lib.hid (HC.out.alloc (.cells #[.int .i64 5] 22))
 have HR6:=Lib.hid (HR.out.alloc (.cells #[.int .i64 5] 22))
 have HB6:=Lib.hid (HB.out.alloc HB.out.size (.cells #[.int .i64 5] 22))
 have HM6:=Lib.hid ((Below.heap_alloc W5 (.cells #[.int .i64 5] 22) w.heap.size (by omega)).trans HM.out)
 have HX6:=Lib.hid ((Below.heap_alloc W5 (.cells #[.int .i64 5] 22) (w.heap.size+1) (by omega)).trans HX.out)
 clear CD' HC HR HB HM HX HT
 go_wp2_with fail
 refine CD5.out.mono ?_
 rintro e w7 ⟨hk7,dlv,dkv,rfl,hv7⟩
 have hv7':=hv7
 obtain ⟨⟨b1,e1,rfl,_⟩,⟨b2,e2,rfl,_⟩⟩:=hv7'
 have hz7:=hk7.size
 simp only [World.size_alloc] at hz7 hv7
 obtain ⟨q,hq⟩:∃ q,w7.heap.size=q:=⟨_,rfl⟩
 obtain ⟨W8,hW8⟩:∃ W8,w7.alloc (.cells #[.int .i64 dso,.bool don,.int .i64 dn,.string ⟨dt.toArray⟩,.slice b1 dl.length e1,.slice b2 dks.length e2] 36)=W8:=⟨_,rfl⟩
 have hb8:Below w7.heap.size w7 W8:=by rw [← hW8];exact (Below.refl _ _).alloc (Nat.le_refl _) _
 have HC:=Lib.hid ((HC6.out.took hk7 (by omega)).below hb8)
 have HR:=Lib.hid ((HR6.out.took hk7 (by omega)).below hb8)
 have HT:=Lib.hid (hk7.2.below hb8)
 have HB:=Lib.hid ((hk7.below2 HB6.out (by simp;omega) (by omega)).trans (hb8.mono (by omega)))
 have HM:=Lib.hid ((hb8.block _ (by omega)).trans ((hk7.1.block w.heap.size (by simp;omega) (by omega)).trans HM6.out))
 have HX:=Lib.hid ((hb8.block _ (by omega)).trans ((hk7.1.block (w.heap.size+1) (by simp;omega) (by omega)).trans HX6.out))
 have HQ:=Lib.hid (show W8.heap[q]?=some (.cells #[.int .i64 dso,.bool don,.int .i64 dn,.string ⟨dt.toArray⟩,.slice b1 dl.length e1,.slice b2 dks.length e2] 36 (0,0)) by rw [← hW8,← hq];exact heap_alloc_new _ _)
 have HD:=Lib.hid (show ValIn W8 (fun k=>W5.heap.size+1≤k) (.mk dso don dn dt dl dks) (.slice b1 dl.length e1) (.slice b2 dks.length e2) from val_below hv7 hb8)
 have hz8:q<W8.heap.size:=by rw [← hW8,← hq];simp
 have hgq:g<q:=by omega
 have hdq:d<q:=by omega
 have hz58:W5.heap.size+1≤q:=by omega
 clear CD5 HC6 HR6 HB6 HM6 HX6 hk7 hv7 hb8 p0' p1' p2' p3' p4' p5' pf m0 hW5
 obtain ⟨⟨p0',p1',p2',p3',p4',p5'⟩,pf⟩:=cells_six HQ.out
 have CU5:=Lib.hid (CU'.out W8 d (false||x0) _ _ _ HT.out HD.out)
 clear CU'
 go_wp2_with fail
 refine CU5.out.mono ?_
 rintro e w9 ⟨hk9,rfl⟩
 have hz9:=hk9.size
 have hC9:=HC.out.took hk9 (by omega)
 have hB9:=hk9.below2 HB.out (by omega) (by omega)
 have n7:=hC9.cell 7
 simp only [kindC,List.getElem?_toArray,List.getElem?_cons_zero,List.getElem?_cons_succ] at n7
 have nf:=hC9.frozen
 obtain ⟨W10,hW10⟩:∃ W10,(w9.setCell ⟨g,7,none⟩ (.string ⟨y1.toArray⟩))=W10:=⟨_,rfl⟩
 have far:∀ k,k≠g→W10.heap[k]?=w9.heap[k]?:=fun k hk=>by rw [← hW10,Below.heap_setCell _ _ _ _ hk]
 have hsz:W10.heap.size=w9.heap.size:=by rw [← hW10];simp
 have HC2:=Lib.hid (show Cs g #[.int .i64 5,.int .i64 0,.bool false,.int .i64 0,.string ⟨#[]⟩,.slice none 0 0,.slice none 0 0,.string ⟨y1.toArray⟩,.int .i64 0,.string ⟨#[]⟩,.slice none 0 0,.int .i64 0,.int .i64 0,.int .i64 0,.bool false,.int .i64 0,.string ⟨#[]⟩,.slice none 0 0,.slice none 0 0] W10 by rw [← hW10];exact (hC9.set 7 (.string ⟨y1.toArray⟩)))
 have HR2:=Lib.hid (show Cs (w.heap.size+1+1) zeroC W10 from (far _ (by omega)).trans (HR.out.took hk9 (by omega)))
 have HT2:=Lib.hid (show Tk d ((false||x0)||!x1) W10 from (far _ (by omega)).trans hk9.2)
 have HB2:=Lib.hid (show Below w.heap.size w W10 by rw [← hW10];exact (hB9.setCell (p:=⟨g,7,none⟩) (show w.heap.size≤g by omega) (.string ⟨y1.toArray⟩)))
 have HM2:=Lib.hid ((far w.heap.size (by omega)).trans ((hk9.1.block w.heap.size (by omega) (by omega)).trans HM.out))
 have HX2:=Lib.hid ((far (w.heap.size+1) (by omega)).trans ((hk9.1.block (w.heap.size+1) (by omega) (by omega)).trans HX.out))
 have HQ2:=Lib.hid ((far q (by omega)).trans ((hk9.1.block q (by omega) (by omega)).trans HQ.out))
 have HD2:=Lib.hid (ValIn.later (R':=fun k=>W5.heap.size+1≤k) (fun k hk _=>far k (by omega)) (fun _ h=>h) _ _ _ (hk9.val HD.out (fun k hk=>by omega)))
 clear HC HR HT HB HM HX HQ HD CU5 hk9 hC9 hB9 far p0' p1' p2' p3' p4' p5' pf
 have HC:=HC2
 have HR:=HR2
 have HT:=HT2
 have HB:=HB2
 have HM:=HM2
 have HX:=HX2
 have HQ:=HQ2
 have HD:=HD2
 clear HC2 HR2 HT2 HB2 HM2 HX2 HQ2 HD2
 go_upto_region 10 with fail
 (try rw [hW10])
 clear n7 nf hW10 hW8
 have m0:W10.cell? ⟨w.heap.size,0,none⟩=some (.int .i64 5):=by unfold World.cell?;rw [HM.out];rfl
 go_upto_region 15 with fail
 obtain ⟨⟨p0',p1',p2',p3',p4',p5'⟩,pf⟩:=cells_six HQ.out
 have CV5:=Lib.hid (CV'.out W10 d ((false||x0)||!x1) _ _ _ HT.out HD.out)
 clear CV'
 go_wp2_with fail
 refine CV5.out.mono ?_
 rintro e w11 ⟨hk11,rfl⟩
 have hz11:=hk11.size
 have hC11:=HC.out.took hk11 (by omega)
 have hB11:=hk11.below2 HB.out (by omega) (by omega)
 have n8:=hC11.cell 8
 simp only [List.getElem?_toArray,List.getElem?_cons_zero,List.getElem?_cons_succ] at n8
 have nf:=hC11.frozen
 obtain ⟨W12,hW12⟩:∃ W12,(w11.setCell ⟨g,8,none⟩ (.int .i64 y2))=W12:=⟨_,rfl⟩
 have far:∀ k,k≠g→W12.heap[k]?=w11.heap[k]?:=fun k hk=>by rw [← hW12,Below.heap_setCell _ _ _ _ hk]
 have hsz:W12.heap.size=w11.heap.size:=by rw [← hW12];simp
 have HC2:=Lib.hid (show Cs g #[.int .i64 5,.int .i64 0,.bool false,.int .i64 0,.string ⟨#[]⟩,.slice none 0 0,.slice none 0 0,.string ⟨y1.toArray⟩,.int .i64 y2,.string ⟨#[]⟩,.slice none 0 0,.int .i64 0,.int .i64 0,.int .i64 0,.bool false,.int .i64 0,.string ⟨#[]⟩,.slice none 0 0,.slice none 0 0] W12 by rw [← hW12];exact (hC11.set 8 (.int .i64 y2)))
 have HR2:=Lib.hid (show Cs (w.heap.size+1+1) zeroC W12 from (far _ (by omega)).trans (HR.out.took hk11 (by omega)))
 have HT2:=Lib.hid (show Tk d (((false||x0)||!x1)||!x2) W12 from (far _ (by omega)).trans hk11.2)
 have HB2:=Lib.hid (show Below w.heap.size w W12 by rw [← hW12];exact (hB11.setCell (p:=⟨g,8,none⟩) (show w.heap.size≤g by omega) (.int .i64 y2)))
 have HM2:=Lib.hid ((far w.heap.size (by omega)).trans ((hk11.1.block w.heap.size (by omega) (by omega)).trans HM.out))
 have HX2:=Lib.hid ((far (w.heap.size+1) (by omega)).trans ((hk11.1.block (w.heap.size+1) (by omega) (by omega)).trans HX.out))
 have HQ2:=Lib.hid ((far q (by omega)).trans ((hk11.1.block q (by omega) (by omega)).trans HQ.out))
 have HD2:=Lib.hid (ValIn.later (R':=fun k=>W5.heap.size+1≤k) (fun k hk _=>far k (by omega)) (fun _ h=>h) _ _ _ (hk11.val HD.out (fun k hk=>by omega)))
 clear HC HR HT HB HM HX HQ HD CV5 hk11 hC11 hB11 far p0' p1' p2' p3' p4' p5' pf
 have HC:=HC2
 have HR:=HR2
 have HT:=HT2
 have HB:=HB2
 have HM:=HM2
 have HX:=HX2
 have HQ:=HQ2
 have HD:=HD2
 clear HC2 HR2 HT2 HB2 HM2 HX2 HQ2 HD2
 go_upto_region 16 with fail
 (try rw [hW12])
 clear n8 nf hW12
 go_upto_region 16 with fail
 obtain ⟨⟨p0',p1',p2',p3',p4',p5'⟩,pf⟩:=cells_six HX.out
 have CC5:=Lib.hid (CC'.out W12 d (((false||x0)||!x1)||!x2) HB.out HT.out)
 clear CC'
 go_wp2_with fail
 refine CC5.out.mono ?_
 rintro e w13 ⟨hk13,ea,ec,rfl,he13⟩
 have hz13:=hk13.size
 have hC13:=HC.out.took hk13 (by omega)
 have hB13:=hk13.below2 HB.out (by omega) (by omega)
 have n10:=hC13.cell 10
 simp only [List.getElem?_toArray,List.getElem?_cons_zero,List.getElem?_cons_succ] at n10
 have nf:=hC13.frozen
 obtain ⟨W14,hW14⟩:∃ W14,(w13.setCell ⟨g,10,none⟩ (.slice ea y3.length ec))=W14:=⟨_,rfl⟩
 have far:∀ k,k≠g→W14.heap[k]?=w13.heap[k]?:=fun k hk=>by rw [← hW14,Below.heap_setCell _ _ _ _ hk]
 have hsz:W14.heap.size=w13.heap.size:=by rw [← hW14];simp
 have HC2:=Lib.hid (show Cs g #[.int .i64 5,.int .i64 0,.bool false,.int .i64 0,.string ⟨#[]⟩,.slice none 0 0,.slice none 0 0,.string ⟨y1.toArray⟩,.int .i64 y2,.string ⟨#[]⟩,.slice ea y3.length ec,.int .i64 0,.int .i64 0,.int .i64 0,.bool false,.int .i64 0,.string ⟨#[]⟩,.slice none 0 0,.slice none 0 0] W14 by rw [← hW14];exact (hC13.set 10 (.slice ea y3.length ec)))
 have HR2:=Lib.hid (show Cs (w.heap.size+1+1) zeroC W14 from (far _ (by omega)).trans (HR.out.took hk13 (by omega)))
 have HT2:=Lib.hid (show Tk d ((((false||x0)||!x1)||!x2)||!x3) W14 from (far _ (by omega)).trans hk13.2)
 have HB2:=Lib.hid (show Below w.heap.size w W14 by rw [← hW14];exact (hB13.setCell (p:=⟨g,10,none⟩) (show w.heap.size≤g by omega) (.slice ea y3.length ec)))
 have HM2:=Lib.hid ((far w.heap.size (by omega)).trans ((hk13.1.block w.heap.size (by omega) (by omega)).trans HM.out))
 have HX2:=Lib.hid ((far (w.heap.size+1) (by omega)).trans ((hk13.1.block (w.heap.size+1) (by omega) (by omega)).trans HX.out))
 have HQ2:=Lib.hid ((far q (by omega)).trans ((hk13.1.block q (by omega) (by omega)).trans HQ.out))
 have HD2:=Lib.hid (ValIn.later (R':=fun k=>W5.heap.size+1≤k) (fun k hk _=>far k (by omega)) (fun _ h=>h) _ _ _ (hk13.val HD.out (fun k hk=>by omega)))
 have HE:=Lib.hid (show EditsIn W14 (fun k=>W5.heap.size+1≤k) y3 (.slice ea y3.length ec) from he13.later (fun k hk _=>far k (by omega)) (fun k hk=>by omega))
 clear HC HR HT HB HM HX HQ HD CC5 hk13 hC13 hB13 far p0' p1' p2' p3' p4' p5' pf he13
 have HC:=HC2
 have HR:=HR2
 have HT:=HT2
 have HB:=HB2
 have HM:=HM2
 have HX:=HX2
 have HQ:=HQ2
 have HD:=HD2
 clear HC2 HR2 HT2 HB2 HM2 HX2 HQ2 HD2
 go_upto_region 19 with fail
 (try rw [hW14])
 clear n10 nf hW14
 obtain ⟨r,hr⟩:∃ r,w.heap.size+1+1=r:=⟨_,rfl⟩
 rw [hr] at HR hrg
 rw [hr]
 have hrd:d≠r:=by omega
 have hrw:w.heap.size≤r:=by omega
 have HV:∀ X:World,(∀ k,k≠r→X.heap[k]?=W14.heap[k]?)→EditsIn X (fun k=>w.heap.size≤k) y3 (.slice ea y3.length ec):=fun X hX=>HE.out.later (fun k hk _=>hX k (by omega)) (fun k hk=>by omega)
 clear HM HX HQ HD HE
 obtain ⟨V,hV⟩:∃ V,Value.agg #[.int .i64 5,.int .i64 0,.bool false,.int .i64 0,.string ⟨#[]⟩,.slice none 0 0,.slice none 0 0,.string ⟨y1.toArray⟩,.int .i64 y2,.string ⟨#[]⟩,.slice ea y3.length ec,.int .i64 0,.int .i64 0,.int .i64 0,.bool false,.int .i64 0,.string ⟨#[]⟩,.slice none 0 0,.slice none 0 0]=V:=⟨_,rfl⟩
 have hS0:(Cs g #[.int .i64 5,.int .i64 0,.bool false,.int .i64 0,.string ⟨#[]⟩,.slice none 0 0,.slice none 0 0,.string ⟨y1.toArray⟩,.int .i64 y2,.string ⟨#[]⟩,.slice ea y3.length ec,.int .i64 0,.int .i64 0,.int .i64 0,.bool false,.int .i64 0,.string ⟨#[]⟩,.slice none 0 0,.slice none 0 0] W14.drew∧Tk d ((((false||x0)||!x1)||!x2)||!x3) W14.drew∧∃ old,old.size=19∧Cs r old W14.drew):=⟨HC.out,HT.out,zeroC,rfl,HR.out⟩
 refine wp_region_held_drew (S:=fun X=>Cs g #[.int .i64 5,.int .i64 0,.bool false,.int .i64 0,.string ⟨#[]⟩,.slice none 0 0,.slice none 0 0,.string ⟨y1.toArray⟩,.int .i64 y2,.string ⟨#[]⟩,.slice ea y3.length ec,.int .i64 0,.int .i64 0,.int .i64 0,.bool false,.int .i64 0,.string ⟨#[]⟩,.slice none 0 0,.slice none 0 0] X∧Tk d ((((false||x0)||!x1)||!x2)||!x3) X∧∃ old,old.size=19∧Cs r old X) (by kernel_rfl) hS0 (fun hHeld=>?_)
 refine wpAnyH_take (i:=0) (oi:=({ dst:=some 56,op:=Op.load 43 (Operand.tmp 6),type:=43,pos := "read.go:73",after:=#[],guard:=none }:Oper)) (v:=V) rfl (by kernel_rfl) (by kernel_rfl) (by kernel_rfl) (fun _ _ _ h=>h) (yields_load 43 (.tmp 6) rfl (by rfl) (fun X hX=>(hX.1.load rfl).trans (by rw [hV]))) hHeld ?_
 simp only [Act.put,List.setIfInBounds_toArray,List.set_cons_zero,List.set_cons_succ]
 refine wpAnyH_take (i:=1) (oi:=({ dst:=some 57,op:=Op.fieldAddr 133 (Operand.tmp 7) 0,type:=0,pos := "read.go:73",after:=#[{ on:=4,ground:=Ground.gcOnly Departure.lateStores }],guard:=none }:Oper)) (v:=.pointer (some ⟨d,0,none⟩)) rfl (by kernel_rfl) (by kernel_rfl) (by kernel_rfl) (fun _ _ _ h=>h) (Or.inl ⟨by rfl,fun X hX=>rfl⟩) hHeld ?_
 simp only [Act.put,List.setIfInBounds_toArray,List.set_cons_zero,List.set_cons_succ]
 refine wpAnyH_take (i:=2) (oi:=({ dst:=some 58,op:=Op.load 4 (Operand.tmp 57),type:=4,pos := "read.go:73",after:=#[{ on:=1,ground:=Ground.data },{ on:=4,ground:=Ground.gcOnly Departure.lateStores }],guard:=none }:Oper)) (v:=.bool ((((false||x0)||!x1)||!x2)||!x3)) rfl (by kernel_rfl) (by kernel_rfl) (by kernel_rfl) (fun _ _ _ h=>h) (yields_load 4 (.tmp 57) rfl (by rfl) (fun X hX=>load_tk hX.2.1)) hHeld ?_
 simp only [Act.put,List.setIfInBounds_toArray,List.set_cons_zero,List.set_cons_succ]
 refine wpAnyH_take (i:=3) (oi:=({ dst:=some 59,op:=Op.unOp UnOp.not 4 (Operand.tmp 58),type:=4,pos := "read.go:73",after:=#[{ on:=2,ground:=Ground.data },{ on:=4,ground:=Ground.gcOnly Departure.lateStores }],guard:=none }:Oper)) (v:=.bool (!((((false||x0)||!x1)||!x2)||!x3))) rfl (by kernel_rfl) (by kernel_rfl) (by kernel_rfl) (fun _ _ _ h=>h) (Or.inl ⟨by rfl,fun X hX=>rfl⟩) hHeld ?_
 simp only [Act.put,List.setIfInBounds_toArray,List.set_cons_zero,List.set_cons_succ]
 refine wpAnyH_ready (rs:=[4]) (by kernel_rfl) (by simp) ?_
 refine AllReadyH.cons (o:=({ dst:=none,op:=Op.store 43 (Operand.tmp 4) (Operand.tmp 56),type:=0,pos := "read.go:73",after:=#[{ on:=0,ground:=Ground.data },{ on:=0,ground:=Ground.phase },{ on:=1,ground:=Ground.textOnly Departure.lateStores },{ on:=2,ground:=Ground.textOnly Departure.lateStores },{ on:=3,ground:=Ground.textOnly Departure.lateStores }],guard:=none }:Oper)) rfl (fun K hK=>?_) AllReadyH.nil
 refine wanted_step (by kernel_rfl) ?_
 refine wp_storeV rfl 43 (.tmp 4) (.tmp 56) rfl _ (store_as hV HR.out rfl rfl (by kernel_rfl)) ?_
 refine hK.out _ _ ⟨Cs.row_ne HC.out (Ne.symm hrg) _,(setRow_other _ _ _ _ hrd).trans HT.out,_,rfl,Cs.row HR.out _⟩ (fun hHeld=>?_)
 refine wpAnyH_take (i:=5) (oi:=({ dst:=some 5,op:=Op.assign (Operand.tmp 59),type:=4,pos := "read.go:73",after:=#[{ on:=3,ground:=Ground.data },{ on:=4,ground:=Ground.chain },{ on:=0,ground:=Ground.phase },{ on:=1,ground:=Ground.phase },{ on:=2,ground:=Ground.phase },{ on:=3,ground:=Ground.phase },{ on:=4,ground:=Ground.phase }],guard:=none }:Oper)) (v:=.bool (!((((false||x0)||!x1)||!x2)||!x3))) rfl (by kernel_rfl) (by kernel_rfl) (by kernel_rfl) (fun _ _ _ h=>h) (Or.inl ⟨by rfl,fun X hX=>rfl⟩) hHeld ?_
 simp only [Act.put,List.setIfInBounds_toArray,List.set_cons_zero,List.set_cons_succ]
 refine wpAnyH_done (by kernel_rfl) ?_ _
 have HF:=Lib.hid (show Cs r #[.int .i64 5,.int .i64 0,.bool false,.int .i64 0,.string ⟨#[]⟩,.slice none 0 0,.slice none 0 0,.string ⟨y1.toArray⟩,.int .i64 y2,.string ⟨#[]⟩,.slice ea y3.length ec,.int .i64 0,.int .i64 0,.int .i64 0,.bool false,.int .i64 0,.string ⟨#[]⟩,.slice none 0 0,.slice none 0 0] (W14.drew.setRow r #[.int .i64 5,.int .i64 0,.bool false,.int .i64 0,.string ⟨#[]⟩,.slice none 0 0,.slice none 0 0,.string ⟨y1.toArray⟩,.int .i64 y2,.string ⟨#[]⟩,.slice ea y3.length ec,.int .i64 0,.int .i64 0,.int .i64 0,.bool false,.int .i64 0,.string ⟨#[]⟩,.slice none 0 0,.slice none 0 0]) from Cs.row HR.out _)
 have HBF:=Lib.hid (show Below w.heap.size w (W14.drew.setRow r #[.int .i64 5,.int .i64 0,.bool false,.int .i64 0,.string ⟨#[]⟩,.slice none 0 0,.slice none 0 0,.string ⟨y1.toArray⟩,.int .i64 y2,.string ⟨#[]⟩,.slice ea y3.length ec,.int .i64 0,.int .i64 0,.int .i64 0,.bool false,.int .i64 0,.string ⟨#[]⟩,.slice none 0 0,.slice none 0 0]) from Below.setRow' HB.out.drew hrw _)
 have HVF:=Lib.hid (HV (W14.drew.setRow r #[.int .i64 5,.int .i64 0,.bool false,.int .i64 0,.string ⟨#[]⟩,.slice none 0 0,.slice none 0 0,.string ⟨y1.toArray⟩,.int .i64 y2,.string ⟨#[]⟩,.slice ea y3.length ec,.int .i64 0,.int .i64 0,.int .i64 0,.bool false,.int .i64 0,.string ⟨#[]⟩,.slice none 0 0,.slice none 0 0]) (fun k hk=>setRow_other _ _ _ _ hk))
 obtain ⟨WF,hWF⟩:∃ WF,W14.drew.setRow r #[.int .i64 5,.int .i64 0,.bool false,.int .i64 0,.string ⟨#[]⟩,.slice none 0 0,.slice none 0 0,.string ⟨y1.toArray⟩,.int .i64 y2,.string ⟨#[]⟩,.slice ea y3.length ec,.int .i64 0,.int .i64 0,.int .i64 0,.bool false,.int .i64 0,.string ⟨#[]⟩,.slice none 0 0,.slice none 0 0]=WF:=⟨_,rfl⟩
 rw [hWF] at HF HBF ⊢
 (try rw [hWF] at HVF)
 clear hK hWF HC HT HR HB HV hHeld hS0
 go_wp2_with fail
 refine bodyPost_ret (v:=.tuple #[.agg #[.int .i64 5,.int .i64 0,.bool false,.int .i64 0,.string ⟨#[]⟩,.slice none 0 0,.slice none 0 0,.string ⟨y1.toArray⟩,.int .i64 y2,.string ⟨#[]⟩,.slice ea y3.length ec,.int .i64 0,.int .i64 0,.int .i64 0,.bool false,.int .i64 0,.string ⟨#[]⟩,.slice none 0 0,.slice none 0 0],.bool (!((((false||x0)||!x1)||!x2)||!x3))]) ((results_call (fn:=Tryz.f40) (p:=4) (u:=5) (by rfl) (by rfl) HF.out rfl).trans rfl) rfl ?_
 refine calls_end (ch:=.slice ea y3.length ec) (ol:=.slice none 0 0) (okv:=.slice none 0 0) HBF.out ?_ HWr.out ?_ ?_ ?_
 ·rw [HPar.out];rfl
 ·rw [HPar.out];exact HVF.out
 ·rw [HPar.out];exact leaf_in _ _ _ _ _ _
 ·rw [HPar.out]
end Go.Proofs.YtpbnhnilfpoljaaGreatDoor.M
namespace Go.Proofs.YtpbnhnilfpoljaaGreatDoor.M
open Go.RowKit
open Go.Lib Go.Proofs.YtpbnhnilfpoljaaGreatDoor.V
set_option maxHeartbeats 8000000 in
set_option maxRecDepth 20000 in
theorem call_6 (nm:ByteArray) (ask:Bool) (p:Val) (lv kv:Value) (R:Nat→Prop) (w:World) (hv0:ValIn w R p lv kv) (hw:wt p≤65536) :
  Calls Tryz.prog 40 #[.agg #[.int .i64 6,.string nm,.bool ask,.bool true],arg p lv kv] w (CallsP 6 p w):=by
 have hv:ValIn w (fun g=>g<w.heap.size) p lv kv:=(ValIn.bound _ _ _ hv0).later (fun _ _ _=>rfl) (fun _ h=>h.2) _ _ _
 have hv':=hv
 obtain ⟨so,on,n,t,l,ks⟩:=p
 obtain ⟨⟨a1,c1,rfl,_⟩,⟨a2,c2,rfl,_⟩⟩:=hv'
 have hwu:wt (getZ (.mk so on n t l ks) [bDoc])≤65536:=getZ_wt2 [bDoc] hw
 have cD:=fun W g d b (hb:Below w.heap.size w W) (hk:Tk d b W) hs=>part_any (.mk so on n t l ks) _ _ bDoc [5] g 0 1 d b _ W hk (val_below hv hb) hw hs (by simp) (by simp)
 have cU:=fun W d b lv kv R (hk:Tk d b W) (hv:ValIn W R (getZ (.mk so on n t l ks) [bDoc]) lv kv)=>ttext_any (getZ (.mk so on n t l ks) [bDoc]) lv kv bUri d b R W hk hv hwu
 have hpar:paramsP 6 zV (.mk so on n t l ks)=⟨6,zV,textAt (getZ (.mk so on n t l ks) [bDoc]) [bUri],0,[],[],p0,zV⟩:=by
  unfold paramsP
  rw [if_neg (by decide),if_neg (by decide)]
  simp [(text_two (.mk so on n t l ks) bDoc bUri).2]
 have hwr:(!((false||needP (.mk so on n t l ks) bDoc [5])||!isText (getZ (.mk so on n t l ks) [bDoc]) [bUri]))=paramsOk 6 (.mk so on n t l ks):=by
  rw [need_in _ _ _ _ text_rec]
  unfold paramsOk
  rw [if_neg (by decide),if_neg (by decide)]
  simp [(text_two (.mk so on n t l ks) bDoc bUri).1]
 generalize needP (.mk so on n t l ks) bDoc [5]=x0 at cD hwr
 generalize isText (getZ (.mk so on n t l ks) [bDoc]) [bUri]=x1 at cU hwr
 generalize textAt (getZ (.mk so on n t l ks) [bDoc]) [bUri]=y1 at cU hpar
 generalize (getZ (.mk so on n t l ks) [bDoc])=u at cD cU
 obtain ⟨dso,don,dn,dt,dl,dks⟩:=u
 have HPar:=Lib.hid hpar
 have HWr:=Lib.hid hwr
 clear hpar hwr hwu
 simp only [arg,six',six,strCell,bDoc,bUri,List.length_cons,List.length_nil,Nat.zero_add] at cD cU ⊢
 clear hv0 hv
 generalize l.length=m1 at cD cU ⊢
 generalize ks.length=m2 at cD cU ⊢
 have CD':=Lib.hid cD
 have CU':=Lib.hid cU
 clear cD cU
 obtain ⟨h1,h2,h3,h4⟩:=three w (.cells #[.int .i64 6,.string nm,.bool ask,.bool true] 73) (.cells #[.int .i64 so,.bool on,.int .i64 n,.string ⟨t.toArray⟩,.slice a1 m1 c1,.slice a2 m2 c2] 36) (.cells #[.int .i64 0,.int .i64 0,.bool false,.int .i64 0,.string ⟨#[]⟩,.slice none 0 0,.slice none 0 0,.string ⟨#[]⟩,.int .i64 0,.string ⟨#[]⟩,.slice none 0 0,.int .i64 0,.int .i64 0,.int .i64 0,.bool false,.int .i64 0,.string ⟨#[]⟩,.slice none 0 0,.slice none 0 0] 43)
 obtain ⟨W3,hW3⟩:∃ W3,((w.alloc (.cells #[.int .i64 6,.string nm,.bool ask,.bool true] 73)).alloc (.cells #[.int .i64 so,.bool on,.int .i64 n,.string ⟨t.toArray⟩,.slice a1 m1 c1,.slice a2 m2 c2] 36)).alloc (.cells #[.int .i64 0,.int .i64 0,.bool false,.int .i64 0,.string ⟨#[]⟩,.slice none 0 0,.slice none 0 0,.string ⟨#[]⟩,.int .i64 0,.string ⟨#[]⟩,.slice none 0 0,.int .i64 0,.int .i64 0,.int .i64 0,.bool false,.int .i64 0,.string ⟨#[]⟩,.slice none 0 0,.slice none 0 0] 43)=W3:=⟨_,rfl⟩
 rw [hW3] at h1 h2 h3 h4
 have q0:W3.cell? ⟨w.heap.size,0,none⟩=some (.int .i64 6):=by unfold World.cell?;rw [h1];rfl
 have hB3:Below w.heap.size w W3:=h4.1
 have hz3:w.heap.size+3≤W3.heap.size:=by have:=h4.2;omega
 have hR3:Cs (w.heap.size+1+1) zeroC W3:=h3
 obtain ⟨W4,hW4⟩:∃ W4,(W3.alloc (.cells #[.int .i64 0,.int .i64 0,.bool false,.int .i64 0,.string ⟨#[]⟩,.slice none 0 0,.slice none 0 0,.string ⟨#[]⟩,.int .i64 0,.string ⟨#[]⟩,.slice none 0 0,.int .i64 0,.int .i64 0,.int .i64 0,.bool false,.int .i64 0,.string ⟨#[]⟩,.slice none 0 0,.slice none 0 0] 43)).setRow W3.heap.size (kindC 6)=W4:=⟨_,rfl⟩
 have hC4:Cs W3.heap.size (kindC 6) W4:=by rw [← hW4];exact Cs.row (old:=zeroC) (heap_alloc_new _ _) _
 have hR4:Cs (w.heap.size+1+1) zeroC W4:=by rw [← hW4];exact (hR3.alloc _).row_ne (by omega) _
 have hB4:Below w.heap.size w W4:=by rw [← hW4];exact Below.setRow' (hB3.alloc hB3.size _) (by omega) _
 have hM4:W4.heap[w.heap.size]?=some (.cells #[.int .i64 6,.string nm,.bool ask,.bool true] 73 (0,0)):=by rw [← hW4,setRow_other _ _ _ _ (by omega),Below.heap_alloc _ _ _ (by omega)];exact h1
 have hX4:W4.heap[w.heap.size+1]?=some (.cells #[.int .i64 so,.bool on,.int .i64 n,.string ⟨t.toArray⟩,.slice a1 m1 c1,.slice a2 m2 c2] 36 (0,0)):=by rw [← hW4,setRow_other _ _ _ _ (by omega),Below.heap_alloc _ _ _ (by omega)];exact h2
 have hbd:=fun W=>build_call 6 W
 have hst:=fun (W:World) (g:Nat) h=>store_kind (k:=6) (W:=W) (g:=g) h
 obtain ⟨V0,hV0⟩:∃ V,Value.agg (kindC 6)=V:=⟨_,rfl⟩
 simp only [hV0] at hbd hst
 have HB:=Lib.hid hB4
 have HC:=Lib.hid hC4
 have HR:=Lib.hid hR4
 have HM:=Lib.hid hM4
 have HX:=Lib.hid hX4
 clear h1 h2 h3 h4 hR3 hB3 hC4 hR4 hB4 hM4 hX4
 go_enter Tryz.func40,Tryz.ntmps40
 go_upto_region 1 with fail
 iterate 7 go_step
 refine wpList_buildV rfl 43 [(0,.tmp 10)] rfl V0 (hbd _) ?_
 iterate 3 go_step
 refine wpList_storeV rfl rfl 43 (.tmp 6) (.tmp 11) rfl _ (hst _ _ (heap_alloc_new _ _)) ?_
 go_upto_region 2 with fail
 rw [hW4]
 clear hW4 hW3 q0 hbd hst hV0
 generalize W3.heap.size=g at HC hz3 ⊢
 have hrg:w.heap.size+1+1≠g:=by omega
 have hgl:=HC.out.lt
 have m3:W4.cell? ⟨w.heap.size,3,none⟩=some (.bool true):=by unfold World.cell?;rw [HM.out];rfl
 have hTK:=heap_alloc_new W4 (.cells #[.bool false] 133)
 obtain ⟨d,hd⟩:∃ d,W4.heap.size=d:=⟨_,rfl⟩
 obtain ⟨W5,hW5⟩:∃ W5,W4.alloc (.cells #[.bool false] 133)=W5:=⟨_,rfl⟩
 have HT5:=Lib.hid (show Tk d false W5 by rw [← hW5,← hd];exact hTK)
 have HB5:=Lib.hid (show Below w.heap.size w W5 by rw [← hW5];exact HB.out.alloc HB.out.size _)
 have HC5:=Lib.hid (show Cs g (kindC 6) W5 by rw [← hW5];exact HC.out.alloc _)
 have HR5:=Lib.hid (show Cs (w.heap.size+1+1) zeroC W5 by rw [← hW5];exact HR.out.alloc _)
 have HM5:=Lib.hid (show W5.heap[w.heap.size]?=some (.cells #[.int .i64 6,.string nm,.bool ask,.bool true] 73 (0,0)) by rw [← hW5,Below.heap_alloc _ _ _ (by omega)];exact HM.out)
 have HX5:=Lib.hid (show W5.heap[w.heap.size+1]?=some (.cells #[.int .i64 so,.bool on,.int .i64 n,.string ⟨t.toArray⟩,.slice a1 m1 c1,.slice a2 m2 c2] 36 (0,0)) by rw [← hW5,Below.heap_alloc _ _ _ (by omega)];exact HX.out)
 have m0:W5.cell? ⟨w.heap.size,0,none⟩=some (.int .i64 6):=by unfold World.cell?;rw [HM5.out];rfl
 have hz5:d<W5.heap.size:=HT5.out.lt
 rw [hd] at hgl
 clear HB HC HR HM HX hTK
 have HT:=HT5
 have HB:=HB5
 have HC:=HC5
 have HR:=HR5
 have HM:=HM5
 have HX:=HX5
 clear HT5 HB5 HC5 HR5 HM5 HX5
 obtain ⟨⟨p0',p1',p2',p3',p4',p5'⟩,pf⟩:=cells_six HX.out
 have CD5:=Lib.hid (CD'.out (W5.alloc (.cells #[.int .i64 5] 22)) W5.heap.size d false (HB.out.alloc HB.out.size _) (HT.out.below ((Below.refl _ _).alloc (Nat.le_refl _) _)) (cells_of_block (heap_alloc_new W5 _)))
 have HC6:=Lib.hid (HC.out.alloc (.cells #[.int .i64 5] 22))
 have HR6:=Lib.hid (HR.out.alloc (.cells #[.int .i64 5] 22))
 have HB6:=Lib.hid (HB.out.alloc HB.out.size (.cells #[.int .i64 5] 22))
 have HM6:=Lib.hid ((Below.heap_alloc W5 (.cells #[.int .i64 5] 22) w.heap.size (by omega)).trans HM.out)
 have HX6:=Lib.hid ((Below.heap_alloc W5 (.cells #[.int .i64 5] 22) (w.heap.size+1) (by omega)).trans HX.out)
 clear CD' HC HR HB HM HX HT
 go_wp2_with fail
 refine CD5.out.mono ?_
 rintro e w7 ⟨hk7,dlv,dkv,rfl,hv7⟩
 have hv7':=hv7
 obtain ⟨⟨b1,e1,rfl,_⟩,⟨b2,e2,rfl,_⟩⟩:=hv7'
 have hz7:=hk7.size
 simp only [World.size_alloc] at hz7 hv7
 obtain ⟨q,hq⟩:∃ q,w7.heap.size=q:=⟨_,rfl⟩
 obtain ⟨W8,hW8⟩:∃ W8,w7.alloc (.cells #[.int .i64 dso,.bool don,.int .i64 dn,.string ⟨dt.toArray⟩,.slice b1 dl.length e1,.slice b2 dks.length e2] 36)=W8:=⟨_,rfl⟩
 have hb8:Below w7.heap.size w7 W8:=by rw [← hW8];exact (Below.refl _ _).alloc (Nat.le_refl _) _
 have HC:=Lib.hid ((HC6.out.took hk7 (by omega)).below hb8)
 have HR:=Lib.hid ((HR6.out.took hk7 (by omega)).below hb8)
 have HT:=Lib.hid (hk7.2.below hb8)
 have HB:=Lib.hid ((hk7.below2 HB6.out (by simp;omega) (by omega)).trans (hb8.mono (by omega)))
 have HM:=Lib.hid ((hb8.block _ (by omega)).trans ((hk7.1.block w.heap.size (by simp;omega) (by omega)).trans HM6.out))
 have HX:=Lib.hid ((hb8.block _ (by omega)).trans ((hk7.1.block (w.heap.size+1) (by simp;omega) (by omega)).trans HX6.out))
 have HQ:=Lib.hid (show W8.heap[q]?=some (.cells #[.int .i64 dso,.bool don,.int .i64 dn,.string ⟨dt.toArray⟩,.slice b1 dl.length e1,.slice b2 dks.length e2] 36 (0,0)) by rw [← hW8,← hq];exact heap_alloc_new _ _)
 have HD:=Lib.hid (show ValIn W8 (fun k=>W5.heap.size+1≤k) (.mk dso don dn dt dl dks) (.slice b1 dl.length e1) (.slice b2 dks.length e2) from val_below hv7 hb8)
 have hz8:q<W8.heap.size:=by rw [← hW8,← hq];simp
 have hgq:g<q:=by omega
 have hdq:d<q:=by omega
 have hz58:W5.heap.size+1≤q:=by omega
 clear CD5 HC6 HR6 HB6 HM6 HX6 hk7 hv7 hb8 p0' p1' p2' p3' p4' p5' pf m0 hW5
 obtain ⟨⟨p0',p1',p2',p3',p4',p5'⟩,pf⟩:=cells_six HQ.out
 have CU5:=Lib.hid (CU'.out W8 d (false||x0) _ _ _ HT.out HD.out)
 clear CU'
 go_wp2_with fail
 refine CU5.out.mono ?_
 rintro e w9 ⟨hk9,rfl⟩
 have hz9:=hk9.size
 have hC9:=HC.out.took hk9 (by omega)
 have hB9:=hk9.below2 HB.out (by omega) (by omega)
 have n7:=hC9.cell 7
 simp only [kindC,List.getElem?_toArray,List.getElem?_cons_zero,List.getElem?_cons_succ] at n7
 have nf:=hC9.frozen
 obtain ⟨W10,hW10⟩:∃ W10,(w9.setCell ⟨g,7,none⟩ (.string ⟨y1.toArray⟩))=W10:=⟨_,rfl⟩
 have far:∀ k,k≠g→W10.heap[k]?=w9.heap[k]?:=fun k hk=>by rw [← hW10,Below.heap_setCell _ _ _ _ hk]
 have hsz:W10.heap.size=w9.heap.size:=by rw [← hW10];simp
 have HC2:=Lib.hid (show Cs g #[.int .i64 6,.int .i64 0,.bool false,.int .i64 0,.string ⟨#[]⟩,.slice none 0 0,.slice none 0 0,.string ⟨y1.toArray⟩,.int .i64 0,.string ⟨#[]⟩,.slice none 0 0,.int .i64 0,.int .i64 0,.int .i64 0,.bool false,.int .i64 0,.string ⟨#[]⟩,.slice none 0 0,.slice none 0 0] W10 by rw [← hW10];exact (hC9.set 7 (.string ⟨y1.toArray⟩)))
 have HR2:=Lib.hid (show Cs (w.heap.size+1+1) zeroC W10 from (far _ (by omega)).trans (HR.out.took hk9 (by omega)))
 have HT2:=Lib.hid (show Tk d ((false||x0)||!x1) W10 from (far _ (by omega)).trans hk9.2)
 have HB2:=Lib.hid (show Below w.heap.size w W10 by rw [← hW10];exact (hB9.setCell (p:=⟨g,7,none⟩) (show w.heap.size≤g by omega) (.string ⟨y1.toArray⟩)))
 have HM2:=Lib.hid ((far w.heap.size (by omega)).trans ((hk9.1.block w.heap.size (by omega) (by omega)).trans HM.out))
 have HX2:=Lib.hid ((far (w.heap.size+1) (by omega)).trans ((hk9.1.block (w.heap.size+1) (by omega) (by omega)).trans HX.out))
 have HQ2:=Lib.hid ((far q (by omega)).trans ((hk9.1.block q (by omega) (by omega)).trans HQ.out))
 have HD2:=Lib.hid (ValIn.later (R':=fun k=>W5.heap.size+1≤k) (fun k hk _=>far k (by omega)) (fun _ h=>h) _ _ _ (hk9.val HD.out (fun k hk=>by omega)))
 clear HC HR HT HB HM HX HQ HD CU5 hk9 hC9 hB9 far p0' p1' p2' p3' p4' p5' pf
 have HC:=HC2
 have HR:=HR2
 have HT:=HT2
 have HB:=HB2
 have HM:=HM2
 have HX:=HX2
 have HQ:=HQ2
 have HD:=HD2
 clear HC2 HR2 HT2 HB2 HM2 HX2 HQ2 HD2
 go_upto_region 10 with fail
 (try rw [hW10])
 clear n7 nf hW10 hW8
 have m0:W10.cell? ⟨w.heap.size,0,none⟩=some (.int .i64 6):=by unfold World.cell?;rw [HM.out];rfl
 go_upto_region 19 with fail
 obtain ⟨r,hr⟩:∃ r,w.heap.size+1+1=r:=⟨_,rfl⟩
 rw [hr] at HR hrg
 rw [hr]
 have hrd:d≠r:=by omega
 have hrw:w.heap.size≤r:=by omega
 have HV:∀ X:World,(∀ k,k≠r→X.heap[k]?=W10.heap[k]?)→True:=fun _ _=>trivial
 clear HM HX HQ HD
 obtain ⟨V,hV⟩:∃ V,Value.agg #[.int .i64 6,.int .i64 0,.bool false,.int .i64 0,.string ⟨#[]⟩,.slice none 0 0,.slice none 0 0,.string ⟨y1.toArray⟩,.int .i64 0,.string ⟨#[]⟩,.slice none 0 0,.int .i64 0,.int .i64 0,.int .i64 0,.bool false,.int .i64 0,.string ⟨#[]⟩,.slice none 0 0,.slice none 0 0]=V:=⟨_,rfl⟩
 have hS0:(Cs g #[.int .i64 6,.int .i64 0,.bool false,.int .i64 0,.string ⟨#[]⟩,.slice none 0 0,.slice none 0 0,.string ⟨y1.toArray⟩,.int .i64 0,.string ⟨#[]⟩,.slice none 0 0,.int .i64 0,.int .i64 0,.int .i64 0,.bool false,.int .i64 0,.string ⟨#[]⟩,.slice none 0 0,.slice none 0 0] W10.drew∧Tk d ((false||x0)||!x1) W10.drew∧∃ old,old.size=19∧Cs r old W10.drew):=⟨HC.out,HT.out,zeroC,rfl,HR.out⟩
 refine wp_region_held_drew (S:=fun X=>Cs g #[.int .i64 6,.int .i64 0,.bool false,.int .i64 0,.string ⟨#[]⟩,.slice none 0 0,.slice none 0 0,.string ⟨y1.toArray⟩,.int .i64 0,.string ⟨#[]⟩,.slice none 0 0,.int .i64 0,.int .i64 0,.int .i64 0,.bool false,.int .i64 0,.string ⟨#[]⟩,.slice none 0 0,.slice none 0 0] X∧Tk d ((false||x0)||!x1) X∧∃ old,old.size=19∧Cs r old X) (by kernel_rfl) hS0 (fun hHeld=>?_)
 refine wpAnyH_take (i:=0) (oi:=({ dst:=some 56,op:=Op.load 43 (Operand.tmp 6),type:=43,pos := "read.go:73",after:=#[],guard:=none }:Oper)) (v:=V) rfl (by kernel_rfl) (by kernel_rfl) (by kernel_rfl) (fun _ _ _ h=>h) (yields_load 43 (.tmp 6) rfl (by rfl) (fun X hX=>(hX.1.load rfl).trans (by rw [hV]))) hHeld ?_
 simp only [Act.put,List.setIfInBounds_toArray,List.set_cons_zero,List.set_cons_succ]
 refine wpAnyH_take (i:=1) (oi:=({ dst:=some 57,op:=Op.fieldAddr 133 (Operand.tmp 7) 0,type:=0,pos := "read.go:73",after:=#[{ on:=4,ground:=Ground.gcOnly Departure.lateStores }],guard:=none }:Oper)) (v:=.pointer (some ⟨d,0,none⟩)) rfl (by kernel_rfl) (by kernel_rfl) (by kernel_rfl) (fun _ _ _ h=>h) (Or.inl ⟨by rfl,fun X hX=>rfl⟩) hHeld ?_
 simp only [Act.put,List.setIfInBounds_toArray,List.set_cons_zero,List.set_cons_succ]
 refine wpAnyH_take (i:=2) (oi:=({ dst:=some 58,op:=Op.load 4 (Operand.tmp 57),type:=4,pos := "read.go:73",after:=#[{ on:=1,ground:=Ground.data },{ on:=4,ground:=Ground.gcOnly Departure.lateStores }],guard:=none }:Oper)) (v:=.bool ((false||x0)||!x1)) rfl (by kernel_rfl) (by kernel_rfl) (by kernel_rfl) (fun _ _ _ h=>h) (yields_load 4 (.tmp 57) rfl (by rfl) (fun X hX=>load_tk hX.2.1)) hHeld ?_
 simp only [Act.put,List.setIfInBounds_toArray,List.set_cons_zero,List.set_cons_succ]
 refine wpAnyH_take (i:=3) (oi:=({ dst:=some 59,op:=Op.unOp UnOp.not 4 (Operand.tmp 58),type:=4,pos := "read.go:73",after:=#[{ on:=2,ground:=Ground.data },{ on:=4,ground:=Ground.gcOnly Departure.lateStores }],guard:=none }:Oper)) (v:=.bool (!((false||x0)||!x1))) rfl (by kernel_rfl) (by kernel_rfl) (by kernel_rfl) (fun _ _ _ h=>h) (Or.inl ⟨by rfl,fun X hX=>rfl⟩) hHeld ?_
 simp only [Act.put,List.setIfInBounds_toArray,List.set_cons_zero,List.set_cons_succ]
 refine wpAnyH_ready (rs:=[4]) (by kernel_rfl) (by simp) ?_
 refine AllReadyH.cons (o:=({ dst:=none,op:=Op.store 43 (Operand.tmp 4) (Operand.tmp 56),type:=0,pos := "read.go:73",after:=#[{ on:=0,ground:=Ground.data },{ on:=0,ground:=Ground.phase },{ on:=1,ground:=Ground.textOnly Departure.lateStores },{ on:=2,ground:=Ground.textOnly Departure.lateStores },{ on:=3,ground:=Ground.textOnly Departure.lateStores }],guard:=none }:Oper)) rfl (fun K hK=>?_) AllReadyH.nil
 refine wanted_step (by kernel_rfl) ?_
 refine wp_storeV rfl 43 (.tmp 4) (.tmp 56) rfl _ (store_as hV HR.out rfl rfl (by kernel_rfl)) ?_
 refine hK.out _ _ ⟨Cs.row_ne HC.out (Ne.symm hrg) _,(setRow_other _ _ _ _ hrd).trans HT.out,_,rfl,Cs.row HR.out _⟩ (fun hHeld=>?_)
 refine wpAnyH_take (i:=5) (oi:=({ dst:=some 5,op:=Op.assign (Operand.tmp 59),type:=4,pos := "read.go:73",after:=#[{ on:=3,ground:=Ground.data },{ on:=4,ground:=Ground.chain },{ on:=0,ground:=Ground.phase },{ on:=1,ground:=Ground.phase },{ on:=2,ground:=Ground.phase },{ on:=3,ground:=Ground.phase },{ on:=4,ground:=Ground.phase }],guard:=none }:Oper)) (v:=.bool (!((false||x0)||!x1))) rfl (by kernel_rfl) (by kernel_rfl) (by kernel_rfl) (fun _ _ _ h=>h) (Or.inl ⟨by rfl,fun X hX=>rfl⟩) hHeld ?_
 simp only [Act.put,List.setIfInBounds_toArray,List.set_cons_zero,List.set_cons_succ]
 refine wpAnyH_done (by kernel_rfl) ?_ _
 have HF:=Lib.hid (show Cs r #[.int .i64 6,.int .i64 0,.bool false,.int .i64 0,.string ⟨#[]⟩,.slice none 0 0,.slice none 0 0,.string ⟨y1.toArray⟩,.int .i64 0,.string ⟨#[]⟩,.slice none 0 0,.int .i64 0,.int .i64 0,.int .i64 0,.bool false,.int .i64 0,.string ⟨#[]⟩,.slice none 0 0,.slice none 0 0] (W10.drew.setRow r #[.int .i64 6,.int .i64 0,.bool false,.int .i64 0,.string ⟨#[]⟩,.slice none 0 0,.slice none 0 0,.string ⟨y1.toArray⟩,.int .i64 0,.string ⟨#[]⟩,.slice none 0 0,.int .i64 0,.int .i64 0,.int .i64 0,.bool false,.int .i64 0,.string ⟨#[]⟩,.slice none 0 0,.slice none 0 0]) from Cs.row HR.out _)
 have HBF:=Lib.hid (show Below w.heap.size w (W10.drew.setRow r #[.int .i64 6,.int .i64 0,.bool false,.int .i64 0,.string ⟨#[]⟩,.slice none 0 0,.slice none 0 0,.string ⟨y1.toArray⟩,.int .i64 0,.string ⟨#[]⟩,.slice none 0 0,.int .i64 0,.int .i64 0,.int .i64 0,.bool false,.int .i64 0,.string ⟨#[]⟩,.slice none 0 0,.slice none 0 0]) from Below.setRow' HB.out.drew hrw _)
 have HVF:=Lib.hid (HV (W10.drew.setRow r #[.int .i64 6,.int .i64 0,.bool false,.int .i64 0,.string ⟨#[]⟩,.slice none 0 0,.slice none 0 0,.string ⟨y1.toArray⟩,.int .i64 0,.string ⟨#[]⟩,.slice none 0 0,.int .i64 0,.int .i64 0,.int .i64 0,.bool false,.int .i64 0,.string ⟨#[]⟩,.slice none 0 0,.slice none 0 0]) (fun k hk=>setRow_other _ _ _ _ hk))
 obtain ⟨WF,hWF⟩:∃ WF,W10.drew.setRow r #[.int .i64 6,.int .i64 0,.bool false,.int .i64 0,.string ⟨#[]⟩,.slice none 0 0,.slice none 0 0,.string ⟨y1.toArray⟩,.int .i64 0,.string ⟨#[]⟩,.slice none 0 0,.int .i64 0,.int .i64 0,.int .i64 0,.bool false,.int .i64 0,.string ⟨#[]⟩,.slice none 0 0,.slice none 0 0]=WF:=⟨_,rfl⟩
 rw [hWF] at HF HBF ⊢
 (try rw [hWF] at HVF)
 clear hK hWF HC HT HR HB HV hHeld hS0
 go_wp2_with fail
 refine bodyPost_ret (v:=.tuple #[.agg #[.int .i64 6,.int .i64 0,.bool false,.int .i64 0,.string ⟨#[]⟩,.slice none 0 0,.slice none 0 0,.string ⟨y1.toArray⟩,.int .i64 0,.string ⟨#[]⟩,.slice none 0 0,.int .i64 0,.int .i64 0,.int .i64 0,.bool false,.int .i64 0,.string ⟨#[]⟩,.slice none 0 0,.slice none 0 0],.bool (!((false||x0)||!x1))]) ((results_call (fn:=Tryz.f40) (p:=4) (u:=5) (by rfl) (by rfl) HF.out rfl).trans rfl) rfl ?_
 refine calls_end (ch:=.slice none 0 0) (ol:=.slice none 0 0) (okv:=.slice none 0 0) HBF.out ?_ HWr.out ?_ ?_ ?_
 ·rw [HPar.out];rfl
 ·rw [HPar.out];exact edits_nil _ _
 ·rw [HPar.out];exact leaf_in _ _ _ _ _ _
 ·rw [HPar.out]
end Go.Proofs.YtpbnhnilfpoljaaGreatDoor.M
