/- What the claim needs of the texts MMake8. -/
import Derived.Test.YtpbnhnilfpoljaaGreatDoorRB18
namespace Go.Proofs.YtpbnhnilfpoljaaGreatDoor.M
open Go.RowKit
open Go.Lib Go.Proofs.YtpbnhnilfpoljaaGreatDoor.V
set_option maxHeartbeats 8000000 in
set_option maxRecDepth 100000 in
theorem params_cancel (iso inn oso onn version pl pu:Int) (ion oon:Bool) (itx otx name text:List UInt8) (ilst olst:List Val) (iks oks:List (List UInt8)) (chs:List EditP) (ia1 ia2 oa1 oa2 ca:Option Addr) (ic1 ic2 oc1 oc2 cc im1 im2 om1 om2 cm:Nat) (R:Nat→Prop) (w:World) (hm1:olst.length=om1) (hm2:oks.length=om2) (ho:ValIn w R (.mk oso oon onn otx olst oks) (.slice oa1 om1 oc1) (.slice oa2 om2 oc2)) (hw:wt (.mk oso oon onn otx olst oks)≤65536) :
  Calls Tryz.prog 32 #[.agg #[.int .i64 9,.int .i64 iso,.bool ion,.int .i64 inn,.string ⟨itx.toArray⟩,.slice ia1 im1 ic1,.slice ia2 im2 ic2,.string ⟨name.toArray⟩,.int .i64 version,.string ⟨text.toArray⟩,.slice ca cm cc,.int .i64 pl,.int .i64 pu,.int .i64 oso,.bool oon,.int .i64 onn,.string ⟨otx.toArray⟩,.slice oa1 om1 oc1,.slice oa2 om2 oc2]] w fun e w'=>Below w.heap.size w w'∧∃ lv kv,e=.returned (arg (toldV ⟨9,(.mk iso ion inn itx ilst iks),name,version,text,chs,⟨pl,pu⟩,(.mk oso oon onn otx olst oks)⟩) lv kv)∧ValIn w' (fun b=>w.heap.size≤b) (toldV ⟨9,(.mk iso ion inn itx ilst iks),name,version,text,chs,⟨pl,pu⟩,(.mk oso oon onn otx olst oks)⟩) lv kv:=by
 have ht:toldV ⟨9,(.mk iso ion inn itx ilst iks),name,version,text,chs,⟨pl,pu⟩,(.mk oso oon onn otx olst oks)⟩=recP [bId] [(.mk oso oon onn otx olst oks)]:=rfl
 rw [ht]
 clear ht
 obtain ⟨h1,h2,h3,h4⟩:=two w (.cells #[.int .i64 9,.int .i64 iso,.bool ion,.int .i64 inn,.string ⟨itx.toArray⟩,.slice ia1 im1 ic1,.slice ia2 im2 ic2,.string ⟨name.toArray⟩,.int .i64 version,.string ⟨text.toArray⟩,.slice ca cm cc,.int .i64 pl,.int .i64 pu,.int .i64 oso,.bool oon,.int .i64 onn,.string ⟨otx.toArray⟩,.slice oa1 om1 oc1,.slice oa2 om2 oc2] 43) (.cells #[.int .i64 0,.bool false,.int .i64 0,.string ⟨#[]⟩,.slice none 0 0,.slice none 0 0] 36)
 obtain ⟨W2,hW2⟩:∃ W2,(w.alloc (.cells #[.int .i64 9,.int .i64 iso,.bool ion,.int .i64 inn,.string ⟨itx.toArray⟩,.slice ia1 im1 ic1,.slice ia2 im2 ic2,.string ⟨name.toArray⟩,.int .i64 version,.string ⟨text.toArray⟩,.slice ca cm cc,.int .i64 pl,.int .i64 pu,.int .i64 oso,.bool oon,.int .i64 onn,.string ⟨otx.toArray⟩,.slice oa1 om1 oc1,.slice oa2 om2 oc2] 43)).alloc (.cells #[.int .i64 0,.bool false,.int .i64 0,.string ⟨#[]⟩,.slice none 0 0,.slice none 0 0] 36)=W2:=⟨_,rfl⟩
 rw [hW2] at h1 h2 h3 h4
 have q0:W2.cell? ⟨w.heap.size,0,none⟩=some (.int .i64 9):=by unfold World.cell?;rw [h1];rfl
 have q1:W2.cell? ⟨w.heap.size,1,none⟩=some (.int .i64 iso):=by unfold World.cell?;rw [h1];rfl
 have q2:W2.cell? ⟨w.heap.size,2,none⟩=some (.bool ion):=by unfold World.cell?;rw [h1];rfl
 have q3:W2.cell? ⟨w.heap.size,3,none⟩=some (.int .i64 inn):=by unfold World.cell?;rw [h1];rfl
 have q4:W2.cell? ⟨w.heap.size,4,none⟩=some (.string ⟨itx.toArray⟩):=by unfold World.cell?;rw [h1];rfl
 have q5:W2.cell? ⟨w.heap.size,5,none⟩=some (.slice ia1 im1 ic1):=by unfold World.cell?;rw [h1];rfl
 have q6:W2.cell? ⟨w.heap.size,6,none⟩=some (.slice ia2 im2 ic2):=by unfold World.cell?;rw [h1];rfl
 have q7:W2.cell? ⟨w.heap.size,7,none⟩=some (.string ⟨name.toArray⟩):=by unfold World.cell?;rw [h1];rfl
 have q8:W2.cell? ⟨w.heap.size,8,none⟩=some (.int .i64 version):=by unfold World.cell?;rw [h1];rfl
 have q9:W2.cell? ⟨w.heap.size,9,none⟩=some (.string ⟨text.toArray⟩):=by unfold World.cell?;rw [h1];rfl
 have q10:W2.cell? ⟨w.heap.size,10,none⟩=some (.slice ca cm cc):=by unfold World.cell?;rw [h1];rfl
 have q11:W2.cell? ⟨w.heap.size,11,none⟩=some (.int .i64 pl):=by unfold World.cell?;rw [h1];rfl
 have q12:W2.cell? ⟨w.heap.size,12,none⟩=some (.int .i64 pu):=by unfold World.cell?;rw [h1];rfl
 have q13:W2.cell? ⟨w.heap.size,13,none⟩=some (.int .i64 oso):=by unfold World.cell?;rw [h1];rfl
 have q14:W2.cell? ⟨w.heap.size,14,none⟩=some (.bool oon):=by unfold World.cell?;rw [h1];rfl
 have q15:W2.cell? ⟨w.heap.size,15,none⟩=some (.int .i64 onn):=by unfold World.cell?;rw [h1];rfl
 have q16:W2.cell? ⟨w.heap.size,16,none⟩=some (.string ⟨otx.toArray⟩):=by unfold World.cell?;rw [h1];rfl
 have q17:W2.cell? ⟨w.heap.size,17,none⟩=some (.slice oa1 om1 oc1):=by unfold World.cell?;rw [h1];rfl
 have q18:W2.cell? ⟨w.heap.size,18,none⟩=some (.slice oa2 om2 oc2):=by unfold World.cell?;rw [h1];rfl
 have hz2:w.heap.size+2≤W2.heap.size:=by omega
 have hne:w.heap.size≠w.heap.size+1:=by omega
 have HB2:=Lib.hid h3
 have HO2:=Lib.hid (Open.start h2)
 have cC:∀ W,Below w.heap.size w W→Calls Tryz.prog 30 #[.agg #[.int .i64 oso,.bool oon,.int .i64 onn,.string ⟨otx.toArray⟩,.slice oa1 om1 oc1,.slice oa2 om2 oc2]] W fun e w'=>∃ b1 b2 b3 b4,e=.returned (.agg #[.int .i64 oso,.bool oon,.int .i64 onn,.string ⟨otx.toArray⟩,.slice b1 om1 b2,.slice b3 om2 b4])∧Hid (Below W.heap.size W w')∧Hid (ValIn w' (fun b=>W.heap.size≤b) (.mk oso oon onn otx olst oks) (.slice b1 om1 b2) (.slice b3 om2 b4)):=fun W hb=>by
  subst hm1;subst hm2
  refine (rcopy_any oso oon onn otx olst oks oa1 oa2 oc1 oc2 R W (val_below ho hb) hw).mono ?_
  rintro e w' ⟨hb',lv,kv,rfl,hv⟩
  have hv':=hv
  obtain ⟨⟨b1,b2,rfl,_⟩,⟨b3,b4,rfl,_⟩⟩:=hv'
  exact ⟨b1,b2,b3,b4,rfl,Lib.hid hb',Lib.hid hv⟩
 have CC:=Lib.hid (cC W2 h3)
 clear h1 h2 h3 h4 cC ho hm1 hm2
 go_enter Tryz.func32,Tryz.ntmps32
 go_wp2_with fail
 refine CC.out.mono ?_
 rintro e w1 ⟨b1,b2,b3,b4,rfl,HB1,HV1⟩
 have HO1:=Lib.hid (HO2.out.later HB1.out)
 have hz1:=HB1.out.size
 have hg:=heap_alloc_new w1 (.cells #[.string ⟨#[105,100]⟩,.int .i64 oso,.bool oon,.int .i64 onn,.string ⟨otx.toArray⟩,.slice b1 om1 b2,.slice b3 om2 b4] 78)
 have hP:PartsAt (w1.alloc (.cells #[.string ⟨#[105,100]⟩,.int .i64 oso,.bool oon,.int .i64 onn,.string ⟨otx.toArray⟩,.slice b1 om1 b2,.slice b3 om2 b4] 78)) (fun b=>W2.heap.size≤b) [(bId,(.mk oso oon onn otx olst oks))] w1.heap.size 0:=⟨_,cells_of_block hg,.slice b1 om1 b2,.slice b3 om2 b4,[],rfl,val_below HV1.out ((Below.refl _ _).alloc (Nat.le_refl _) _),rfl⟩
 have cR:=made_rec (c:=1) (B:=W2.heap.size) hP (by simp) (fun b h=>h) (HO1.out.alloc _).size (HO1.out.alloc _)
 simp only [List.length_cons,List.length_nil,Nat.zero_add,List.map_cons,List.map_nil] at cR
 have CR:=Lib.hid cR
 clear hg hP cR hW2 q0 q1 q2 q3 q4 q5 q6 q7 q8 q9 q10 q11 q12 q13 q14 q15 q16 q17 q18 CC
 go_wp2_with fail
 refine CR.out.mono ?_
 rintro e wq ⟨a,c,a',c',rfl,hv,hO⟩
 obtain ⟨y0,y1,y2,y3,y4,y5,k0,k1,k2,k3,k4,k5,kf,hh⟩:=hO.out.cells
 obtain ⟨HP1,HMB,HV4⟩:=ret6 hh.out (hO.out.below HB2.out (Nat.le_succ _) (by omega)) (Nat.le_succ _) hv.out (fun b hb=>by omega)
 have HVE:=Lib.hid (ValIn.later (R':=fun b=>w.heap.size≤b) (fun _ _ _=>rfl) (fun b hb=>by omega) _ _ _ HV4.out)
 clear CR
 go_wp2_with fail
 (try simp only [Exit.inBlock,Exit.then])
 refine bodyPost_ret (v:=.agg #[.int .i64 5,.bool false,.int .i64 0,.string ⟨#[]⟩,.slice a 1 c,.slice a' 1 c']) (results_cell_row rfl _ _ (w.heap.size+1) 36 #[.int .i64 5,.bool false,.int .i64 0,.string ⟨#[]⟩,.slice a 1 c,.slice a' 1 c'] (0,0) _ (by rfl) HP1.out Tryz.underlying36 rfl (by kernel_rfl)) rfl ?_
 exact ⟨HMB.out,.slice a 1 c,.slice a' 1 c',rfl,HVE.out⟩
set_option maxHeartbeats 8000000 in
set_option maxRecDepth 100000 in
theorem params_open (iso inn oso onn version pl pu:Int) (ion oon:Bool) (itx otx name text:List UInt8) (ilst olst:List Val) (iks oks:List (List UInt8)) (chs:List EditP) (ia1 ia2 oa1 oa2 ca:Option Addr) (ic1 ic2 oc1 oc2 cc im1 im2 om1 om2 cm:Nat) (_R:Nat→Prop) (w:World) :
  Calls Tryz.prog 32 #[.agg #[.int .i64 4,.int .i64 iso,.bool ion,.int .i64 inn,.string ⟨itx.toArray⟩,.slice ia1 im1 ic1,.slice ia2 im2 ic2,.string ⟨name.toArray⟩,.int .i64 version,.string ⟨text.toArray⟩,.slice ca cm cc,.int .i64 pl,.int .i64 pu,.int .i64 oso,.bool oon,.int .i64 onn,.string ⟨otx.toArray⟩,.slice oa1 om1 oc1,.slice oa2 om2 oc2]] w fun e w'=>Below w.heap.size w w'∧∃ lv kv,e=.returned (arg (toldV ⟨4,(.mk iso ion inn itx ilst iks),name,version,text,chs,⟨pl,pu⟩,(.mk oso oon onn otx olst oks)⟩) lv kv)∧ValIn w' (fun b=>w.heap.size≤b) (toldV ⟨4,(.mk iso ion inn itx ilst iks),name,version,text,chs,⟨pl,pu⟩,(.mk oso oon onn otx olst oks)⟩) lv kv:=by
 have ht:toldV ⟨4,(.mk iso ion inn itx ilst iks),name,version,text,chs,⟨pl,pu⟩,(.mk oso oon onn otx olst oks)⟩=recP [bDoc] [recP [bUri,bVersion,bText] [strP name,numP version,strP text]]:=rfl
 rw [ht]
 clear ht
 obtain ⟨h1,h2,h3,h4⟩:=two w (.cells #[.int .i64 4,.int .i64 iso,.bool ion,.int .i64 inn,.string ⟨itx.toArray⟩,.slice ia1 im1 ic1,.slice ia2 im2 ic2,.string ⟨name.toArray⟩,.int .i64 version,.string ⟨text.toArray⟩,.slice ca cm cc,.int .i64 pl,.int .i64 pu,.int .i64 oso,.bool oon,.int .i64 onn,.string ⟨otx.toArray⟩,.slice oa1 om1 oc1,.slice oa2 om2 oc2] 43) (.cells #[.int .i64 0,.bool false,.int .i64 0,.string ⟨#[]⟩,.slice none 0 0,.slice none 0 0] 36)
 obtain ⟨W2,hW2⟩:∃ W2,(w.alloc (.cells #[.int .i64 4,.int .i64 iso,.bool ion,.int .i64 inn,.string ⟨itx.toArray⟩,.slice ia1 im1 ic1,.slice ia2 im2 ic2,.string ⟨name.toArray⟩,.int .i64 version,.string ⟨text.toArray⟩,.slice ca cm cc,.int .i64 pl,.int .i64 pu,.int .i64 oso,.bool oon,.int .i64 onn,.string ⟨otx.toArray⟩,.slice oa1 om1 oc1,.slice oa2 om2 oc2] 43)).alloc (.cells #[.int .i64 0,.bool false,.int .i64 0,.string ⟨#[]⟩,.slice none 0 0,.slice none 0 0] 36)=W2:=⟨_,rfl⟩
 rw [hW2] at h1 h2 h3 h4
 have q0:W2.cell? ⟨w.heap.size,0,none⟩=some (.int .i64 4):=by unfold World.cell?;rw [h1];rfl
 have q1:W2.cell? ⟨w.heap.size,1,none⟩=some (.int .i64 iso):=by unfold World.cell?;rw [h1];rfl
 have q2:W2.cell? ⟨w.heap.size,2,none⟩=some (.bool ion):=by unfold World.cell?;rw [h1];rfl
 have q3:W2.cell? ⟨w.heap.size,3,none⟩=some (.int .i64 inn):=by unfold World.cell?;rw [h1];rfl
 have q4:W2.cell? ⟨w.heap.size,4,none⟩=some (.string ⟨itx.toArray⟩):=by unfold World.cell?;rw [h1];rfl
 have q5:W2.cell? ⟨w.heap.size,5,none⟩=some (.slice ia1 im1 ic1):=by unfold World.cell?;rw [h1];rfl
 have q6:W2.cell? ⟨w.heap.size,6,none⟩=some (.slice ia2 im2 ic2):=by unfold World.cell?;rw [h1];rfl
 have q7:W2.cell? ⟨w.heap.size,7,none⟩=some (.string ⟨name.toArray⟩):=by unfold World.cell?;rw [h1];rfl
 have q8:W2.cell? ⟨w.heap.size,8,none⟩=some (.int .i64 version):=by unfold World.cell?;rw [h1];rfl
 have q9:W2.cell? ⟨w.heap.size,9,none⟩=some (.string ⟨text.toArray⟩):=by unfold World.cell?;rw [h1];rfl
 have q10:W2.cell? ⟨w.heap.size,10,none⟩=some (.slice ca cm cc):=by unfold World.cell?;rw [h1];rfl
 have q11:W2.cell? ⟨w.heap.size,11,none⟩=some (.int .i64 pl):=by unfold World.cell?;rw [h1];rfl
 have q12:W2.cell? ⟨w.heap.size,12,none⟩=some (.int .i64 pu):=by unfold World.cell?;rw [h1];rfl
 have q13:W2.cell? ⟨w.heap.size,13,none⟩=some (.int .i64 oso):=by unfold World.cell?;rw [h1];rfl
 have q14:W2.cell? ⟨w.heap.size,14,none⟩=some (.bool oon):=by unfold World.cell?;rw [h1];rfl
 have q15:W2.cell? ⟨w.heap.size,15,none⟩=some (.int .i64 onn):=by unfold World.cell?;rw [h1];rfl
 have q16:W2.cell? ⟨w.heap.size,16,none⟩=some (.string ⟨otx.toArray⟩):=by unfold World.cell?;rw [h1];rfl
 have q17:W2.cell? ⟨w.heap.size,17,none⟩=some (.slice oa1 om1 oc1):=by unfold World.cell?;rw [h1];rfl
 have q18:W2.cell? ⟨w.heap.size,18,none⟩=some (.slice oa2 om2 oc2):=by unfold World.cell?;rw [h1];rfl
 have hz2:w.heap.size+2≤W2.heap.size:=by omega
 have hne:w.heap.size≠w.heap.size+1:=by omega
 have HB2:=Lib.hid h3
 have HO2:=Lib.hid (Open.start h2)
 go_enter Tryz.func32,Tryz.ntmps32
 clear h1 h2 h3 h4
 go_wp2_with fail
 refine (text_any ⟨name.toArray⟩ _).mono ?_
 rintro e w1 ⟨rfl,hb1⟩
 have hO1:=HO2.out.later hb1
 go_upto_region 4 with fail
 obtain ⟨d,hd⟩:∃ d,w1.heap.size=d:=⟨_,rfl⟩
 obtain ⟨W3,hW3⟩:∃ W3,w1.alloc (.cells #[.string ⟨#[117,114,105]⟩,.int .i64 3,.bool false,.int .i64 0,.string ⟨name.toArray⟩,.slice none 0 0,.slice none 0 0] 78)=W3:=⟨_,rfl⟩
 have hx3:W3.heap[d]?=some (.cells #[.string ⟨#[117,114,105]⟩,.int .i64 3,.bool false,.int .i64 0,.string ⟨name.toArray⟩,.slice none 0 0,.slice none 0 0] 78 (0,0)):=by rw [← hW3,← hd];exact heap_alloc_new _ _
 have hO3a:Open (w.heap.size+1) W2 W3:=by rw [← hW3];exact hO1.alloc _
 have hO3:=hO3a.now
 have hz3:W2.heap.size≤W3.heap.size:=hO3a.size
 have HB3:=Lib.hid (hO3a.below HB2.out (Nat.le_succ _) (by omega))
 have hdq:w.heap.size+1<d:=by have:=hO1.size;omega
 have hnd:d≠w.heap.size+1:=by omega
 have p0:=hO3a.cell q0 hne
 have p8:=hO3a.cell q8 hne
 have p9:=hO3a.cell q9 hne
 have p10:=hO3a.cell q10 hne
 have p11:=hO3a.cell q11 hne
 have p12:=hO3a.cell q12 hne
 have d0:W3.cell? ⟨d,0,none⟩=some (.string ⟨#[117,114,105]⟩):=by unfold World.cell?;rw [hx3];rfl
 have d1:W3.cell? ⟨d,1,none⟩=some (.int .i64 3):=by unfold World.cell?;rw [hx3];rfl
 have d2:W3.cell? ⟨d,2,none⟩=some (.bool false):=by unfold World.cell?;rw [hx3];rfl
 have d3:W3.cell? ⟨d,3,none⟩=some (.int .i64 0):=by unfold World.cell?;rw [hx3];rfl
 have d4:W3.cell? ⟨d,4,none⟩=some (.string ⟨name.toArray⟩):=by unfold World.cell?;rw [hx3];rfl
 have d5:W3.cell? ⟨d,5,none⟩=some (.slice none 0 0):=by unfold World.cell?;rw [hx3];rfl
 have d6:W3.cell? ⟨d,6,none⟩=some (.slice none 0 0):=by unfold World.cell?;rw [hx3];rfl
 clear q0 q1 q2 q3 q4 q5 q6 q7 q8 q9 q10 q11 q12 q13 q14 q15 q16 q17 q18 hW2 hb1 hO1
 have hc:∀ W,Open (w.heap.size+1) W3 W→(W.cell? ⟨w.heap.size,8,none⟩=some (.int .i64 version)∧W.cell? ⟨w.heap.size,9,none⟩=some (.string ⟨text.toArray⟩)∧W.cell? ⟨w.heap.size,10,none⟩=some (.slice ca cm cc)∧W.cell? ⟨w.heap.size,11,none⟩=some (.int .i64 pl)∧W.cell? ⟨w.heap.size,12,none⟩=some (.int .i64 pu)∧W.cell? ⟨d,0,none⟩=some (.string ⟨#[117,114,105]⟩)∧W.cell? ⟨d,1,none⟩=some (.int .i64 3)∧W.cell? ⟨d,2,none⟩=some (.bool false)∧W.cell? ⟨d,3,none⟩=some (.int .i64 0)∧W.cell? ⟨d,4,none⟩=some (.string ⟨name.toArray⟩)∧W.cell? ⟨d,5,none⟩=some (.slice none 0 0)∧W.cell? ⟨d,6,none⟩=some (.slice none 0 0)∧Open (w.heap.size+1) W3 W):=fun W hO=>⟨hO.cell p8 hne,hO.cell p9 hne,hO.cell p10 hne,hO.cell p11 hne,hO.cell p12 hne,hO.cell d0 hnd,hO.cell d1 hnd,hO.cell d2 hnd,hO.cell d3 hnd,hO.cell d4 hnd,hO.cell d5 hnd,hO.cell d6 hnd,hO⟩
 have cN:∀ n W,(W.cell? ⟨w.heap.size,8,none⟩=some (.int .i64 version)∧W.cell? ⟨w.heap.size,9,none⟩=some (.string ⟨text.toArray⟩)∧W.cell? ⟨w.heap.size,10,none⟩=some (.slice ca cm cc)∧W.cell? ⟨w.heap.size,11,none⟩=some (.int .i64 pl)∧W.cell? ⟨w.heap.size,12,none⟩=some (.int .i64 pu)∧W.cell? ⟨d,0,none⟩=some (.string ⟨#[117,114,105]⟩)∧W.cell? ⟨d,1,none⟩=some (.int .i64 3)∧W.cell? ⟨d,2,none⟩=some (.bool false)∧W.cell? ⟨d,3,none⟩=some (.int .i64 0)∧W.cell? ⟨d,4,none⟩=some (.string ⟨name.toArray⟩)∧W.cell? ⟨d,5,none⟩=some (.slice none 0 0)∧W.cell? ⟨d,6,none⟩=some (.slice none 0 0)∧Open (w.heap.size+1) W3 W)→Calls Tryz.prog 51 #[.int .i64 n] W fun e w'=>e=.returned (.agg #[.int .i64 2,.bool false,.int .i64 n,.string ⟨#[]⟩,.slice none 0 0,.slice none 0 0])∧(w'.cell? ⟨w.heap.size,8,none⟩=some (.int .i64 version)∧w'.cell? ⟨w.heap.size,9,none⟩=some (.string ⟨text.toArray⟩)∧w'.cell? ⟨w.heap.size,10,none⟩=some (.slice ca cm cc)∧w'.cell? ⟨w.heap.size,11,none⟩=some (.int .i64 pl)∧w'.cell? ⟨w.heap.size,12,none⟩=some (.int .i64 pu)∧w'.cell? ⟨d,0,none⟩=some (.string ⟨#[117,114,105]⟩)∧w'.cell? ⟨d,1,none⟩=some (.int .i64 3)∧w'.cell? ⟨d,2,none⟩=some (.bool false)∧w'.cell? ⟨d,3,none⟩=some (.int .i64 0)∧w'.cell? ⟨d,4,none⟩=some (.string ⟨name.toArray⟩)∧w'.cell? ⟨d,5,none⟩=some (.slice none 0 0)∧w'.cell? ⟨d,6,none⟩=some (.slice none 0 0)∧Open (w.heap.size+1) W3 w'):=fun n W hS=>by
  refine (number_any n W).mono ?_
  rintro e w' ⟨h1,h2⟩
  exact ⟨h1,hc _ (hS.2.2.2.2.2.2.2.2.2.2.2.2.later h2)⟩
 have cT:∀ W,(W.cell? ⟨w.heap.size,8,none⟩=some (.int .i64 version)∧W.cell? ⟨w.heap.size,9,none⟩=some (.string ⟨text.toArray⟩)∧W.cell? ⟨w.heap.size,10,none⟩=some (.slice ca cm cc)∧W.cell? ⟨w.heap.size,11,none⟩=some (.int .i64 pl)∧W.cell? ⟨w.heap.size,12,none⟩=some (.int .i64 pu)∧W.cell? ⟨d,0,none⟩=some (.string ⟨#[117,114,105]⟩)∧W.cell? ⟨d,1,none⟩=some (.int .i64 3)∧W.cell? ⟨d,2,none⟩=some (.bool false)∧W.cell? ⟨d,3,none⟩=some (.int .i64 0)∧W.cell? ⟨d,4,none⟩=some (.string ⟨name.toArray⟩)∧W.cell? ⟨d,5,none⟩=some (.slice none 0 0)∧W.cell? ⟨d,6,none⟩=some (.slice none 0 0)∧Open (w.heap.size+1) W3 W)→Calls Tryz.prog 31 #[.string ⟨text.toArray⟩] W fun e w'=>e=.returned (.agg #[.int .i64 3,.bool false,.int .i64 0,.string ⟨text.toArray⟩,.slice none 0 0,.slice none 0 0])∧(w'.cell? ⟨w.heap.size,8,none⟩=some (.int .i64 version)∧w'.cell? ⟨w.heap.size,9,none⟩=some (.string ⟨text.toArray⟩)∧w'.cell? ⟨w.heap.size,10,none⟩=some (.slice ca cm cc)∧w'.cell? ⟨w.heap.size,11,none⟩=some (.int .i64 pl)∧w'.cell? ⟨w.heap.size,12,none⟩=some (.int .i64 pu)∧w'.cell? ⟨d,0,none⟩=some (.string ⟨#[117,114,105]⟩)∧w'.cell? ⟨d,1,none⟩=some (.int .i64 3)∧w'.cell? ⟨d,2,none⟩=some (.bool false)∧w'.cell? ⟨d,3,none⟩=some (.int .i64 0)∧w'.cell? ⟨d,4,none⟩=some (.string ⟨name.toArray⟩)∧w'.cell? ⟨d,5,none⟩=some (.slice none 0 0)∧w'.cell? ⟨d,6,none⟩=some (.slice none 0 0)∧Open (w.heap.size+1) W3 w'):=fun W hS=>by
  refine (text_any _ W).mono ?_
  rintro e w' ⟨h1,h2⟩
  exact ⟨h1,hc _ (hS.2.2.2.2.2.2.2.2.2.2.2.2.later h2)⟩
 have cR:∀ W g,(W.cell? ⟨w.heap.size,8,none⟩=some (.int .i64 version)∧W.cell? ⟨w.heap.size,9,none⟩=some (.string ⟨text.toArray⟩)∧W.cell? ⟨w.heap.size,10,none⟩=some (.slice ca cm cc)∧W.cell? ⟨w.heap.size,11,none⟩=some (.int .i64 pl)∧W.cell? ⟨w.heap.size,12,none⟩=some (.int .i64 pu)∧W.cell? ⟨d,0,none⟩=some (.string ⟨#[117,114,105]⟩)∧W.cell? ⟨d,1,none⟩=some (.int .i64 3)∧W.cell? ⟨d,2,none⟩=some (.bool false)∧W.cell? ⟨d,3,none⟩=some (.int .i64 0)∧W.cell? ⟨d,4,none⟩=some (.string ⟨name.toArray⟩)∧W.cell? ⟨d,5,none⟩=some (.slice none 0 0)∧W.cell? ⟨d,6,none⟩=some (.slice none 0 0)∧Open (w.heap.size+1) W3 W)→W.heap[g]?=some (.cells #[.string ⟨#[117,114,105]⟩,.int .i64 3,.bool false,.int .i64 0,.string ⟨name.toArray⟩,.slice none 0 0,.slice none 0 0,.string ⟨#[118,101,114,115,105,111,110]⟩,.int .i64 2,.bool false,.int .i64 version,.string ⟨#[]⟩,.slice none 0 0,.slice none 0 0,.string ⟨#[116,101,120,116]⟩,.int .i64 3,.bool false,.int .i64 0,.string ⟨text.toArray⟩,.slice none 0 0,.slice none 0 0] 78 (0,0))→Calls Tryz.prog 50 #[.slice (some ⟨g,0,none⟩) 3 3] W fun e w'=>∃ a1 a2 a3 a4,e=.returned (.agg #[.int .i64 5,.bool false,.int .i64 0,.string ⟨#[]⟩,.slice a1 3 a2,.slice a3 3 a4])∧Hid (ValIn w' (fun b=>W3.heap.size≤b) (recP [bUri,bVersion,bText] [strP name,numP version,strP text]) (.slice a1 3 a2) (.slice a3 3 a4))∧(w'.cell? ⟨w.heap.size,8,none⟩=some (.int .i64 version)∧w'.cell? ⟨w.heap.size,9,none⟩=some (.string ⟨text.toArray⟩)∧w'.cell? ⟨w.heap.size,10,none⟩=some (.slice ca cm cc)∧w'.cell? ⟨w.heap.size,11,none⟩=some (.int .i64 pl)∧w'.cell? ⟨w.heap.size,12,none⟩=some (.int .i64 pu)∧w'.cell? ⟨d,0,none⟩=some (.string ⟨#[117,114,105]⟩)∧w'.cell? ⟨d,1,none⟩=some (.int .i64 3)∧w'.cell? ⟨d,2,none⟩=some (.bool false)∧w'.cell? ⟨d,3,none⟩=some (.int .i64 0)∧w'.cell? ⟨d,4,none⟩=some (.string ⟨name.toArray⟩)∧w'.cell? ⟨d,5,none⟩=some (.slice none 0 0)∧w'.cell? ⟨d,6,none⟩=some (.slice none 0 0)∧Open (w.heap.size+1) W3 w'):=fun W g hS hg=>by
  have hO:=hS.2.2.2.2.2.2.2.2.2.2.2.2
  have hP:PartsAt W (fun _=>False) [(bUri,strP name),(bVersion,numP version),(bText,strP text)] g 0:=⟨_,cells_of_block hg,.slice none 0 0,.slice none 0 0,_,rfl,leaf_in _ _ _ _ _ _,.slice none 0 0,.slice none 0 0,_,rfl,leaf_in _ _ _ _ _ _,.slice none 0 0,.slice none 0 0,[],rfl,leaf_in _ _ _ _ _ _,rfl⟩
  refine (made_rec (c:=3) (B:=W3.heap.size) hP (by simp) (fun b h=>h.elim) hO.size hO).mono ?_
  rintro e w' ⟨a1,a2,a3,a4,rfl,hv,hO'⟩
  exact ⟨a1,a2,a3,a4,rfl,hv,hc _ hO'.out⟩
 have cO:∀ W a1 a2 a3 a4,(W.cell? ⟨w.heap.size,8,none⟩=some (.int .i64 version)∧W.cell? ⟨w.heap.size,9,none⟩=some (.string ⟨text.toArray⟩)∧W.cell? ⟨w.heap.size,10,none⟩=some (.slice ca cm cc)∧W.cell? ⟨w.heap.size,11,none⟩=some (.int .i64 pl)∧W.cell? ⟨w.heap.size,12,none⟩=some (.int .i64 pu)∧W.cell? ⟨d,0,none⟩=some (.string ⟨#[117,114,105]⟩)∧W.cell? ⟨d,1,none⟩=some (.int .i64 3)∧W.cell? ⟨d,2,none⟩=some (.bool false)∧W.cell? ⟨d,3,none⟩=some (.int .i64 0)∧W.cell? ⟨d,4,none⟩=some (.string ⟨name.toArray⟩)∧W.cell? ⟨d,5,none⟩=some (.slice none 0 0)∧W.cell? ⟨d,6,none⟩=some (.slice none 0 0)∧Open (w.heap.size+1) W3 W)→ValIn W (fun b=>W3.heap.size≤b) (recP [bUri,bVersion,bText] [strP name,numP version,strP text]) (.slice a1 3 a2) (.slice a3 3 a4)→Calls Tryz.prog 57 #[.agg #[.int .i64 5,.bool false,.int .i64 0,.string ⟨#[]⟩,.slice a1 3 a2,.slice a3 3 a4],.slice none 0 0] W fun e w'=>∃ e1 e2 e3 e4 y0 y1 y2 y3 y4 y5,e=.returned (.agg #[.int .i64 5,.bool false,.int .i64 0,.string ⟨#[]⟩,.slice e1 1 e2,.slice e3 1 e4])∧Hid (ValIn w' (fun b=>W3.heap.size≤b) (recP [bDoc] [recP [bUri,bVersion,bText] [strP name,numP version,strP text]]) (.slice e1 1 e2) (.slice e3 1 e4))∧w'.cell? ⟨w.heap.size+1,0,none⟩=some y0∧w'.cell? ⟨w.heap.size+1,1,none⟩=some y1∧w'.cell? ⟨w.heap.size+1,2,none⟩=some y2∧w'.cell? ⟨w.heap.size+1,3,none⟩=some y3∧w'.cell? ⟨w.heap.size+1,4,none⟩=some y4∧w'.cell? ⟨w.heap.size+1,5,none⟩=some y5∧(∀ i,w'.frozen? ⟨w.heap.size+1,i,none⟩=false)∧Hid (w'.heap[w.heap.size+1]?=some (.cells #[y0,y1,y2,y3,y4,y5] 36 (0,0)))∧(w'.cell? ⟨w.heap.size,8,none⟩=some (.int .i64 version)∧w'.cell? ⟨w.heap.size,9,none⟩=some (.string ⟨text.toArray⟩)∧w'.cell? ⟨w.heap.size,10,none⟩=some (.slice ca cm cc)∧w'.cell? ⟨w.heap.size,11,none⟩=some (.int .i64 pl)∧w'.cell? ⟨w.heap.size,12,none⟩=some (.int .i64 pu)∧w'.cell? ⟨d,0,none⟩=some (.string ⟨#[117,114,105]⟩)∧w'.cell? ⟨d,1,none⟩=some (.int .i64 3)∧w'.cell? ⟨d,2,none⟩=some (.bool false)∧w'.cell? ⟨d,3,none⟩=some (.int .i64 0)∧w'.cell? ⟨d,4,none⟩=some (.string ⟨name.toArray⟩)∧w'.cell? ⟨d,5,none⟩=some (.slice none 0 0)∧w'.cell? ⟨d,6,none⟩=some (.slice none 0 0)∧Open (w.heap.size+1) W3 w'):=fun W a1 a2 a3 a4 hS hva=>by
  have hO:=hS.2.2.2.2.2.2.2.2.2.2.2.2
  refine (ofdoc_none 5 false 0 [] _ _ a1 a3 a2 a4 (fun b=>W3.heap.size≤b) W hva).mono ?_
  rintro e w' ⟨hb,lv,kv,rfl,hv⟩
  have hv':=hv
  obtain ⟨⟨e1,e2,rfl,_⟩,⟨e3,e4,rfl,_⟩⟩:=hv'
  obtain ⟨y0,y1,y2,y3,y4,y5,k0,k1,k2,k3,k4,k5,kf,hh⟩:=(hO.later hb).cells
  exact ⟨e1,e2,e3,e4,y0,y1,y2,y3,y4,y5,rfl,Lib.hid (ValIn.later (fun _ _ _=>rfl) (fun b hb=>hb.elim id (fun h=>Nat.le_trans hO.size h)) _ _ _ hv),k0,k1,k2,k3,k4,k5,kf,hh,hc _ (hO.later hb)⟩
 have hA:∀ W ob,(W.cell? ⟨w.heap.size,8,none⟩=some (.int .i64 version)∧W.cell? ⟨w.heap.size,9,none⟩=some (.string ⟨text.toArray⟩)∧W.cell? ⟨w.heap.size,10,none⟩=some (.slice ca cm cc)∧W.cell? ⟨w.heap.size,11,none⟩=some (.int .i64 pl)∧W.cell? ⟨w.heap.size,12,none⟩=some (.int .i64 pu)∧W.cell? ⟨d,0,none⟩=some (.string ⟨#[117,114,105]⟩)∧W.cell? ⟨d,1,none⟩=some (.int .i64 3)∧W.cell? ⟨d,2,none⟩=some (.bool false)∧W.cell? ⟨d,3,none⟩=some (.int .i64 0)∧W.cell? ⟨d,4,none⟩=some (.string ⟨name.toArray⟩)∧W.cell? ⟨d,5,none⟩=some (.slice none 0 0)∧W.cell? ⟨d,6,none⟩=some (.slice none 0 0)∧Open (w.heap.size+1) W3 W)→((W.alloc ob).cell? ⟨w.heap.size,8,none⟩=some (.int .i64 version)∧(W.alloc ob).cell? ⟨w.heap.size,9,none⟩=some (.string ⟨text.toArray⟩)∧(W.alloc ob).cell? ⟨w.heap.size,10,none⟩=some (.slice ca cm cc)∧(W.alloc ob).cell? ⟨w.heap.size,11,none⟩=some (.int .i64 pl)∧(W.alloc ob).cell? ⟨w.heap.size,12,none⟩=some (.int .i64 pu)∧(W.alloc ob).cell? ⟨d,0,none⟩=some (.string ⟨#[117,114,105]⟩)∧(W.alloc ob).cell? ⟨d,1,none⟩=some (.int .i64 3)∧(W.alloc ob).cell? ⟨d,2,none⟩=some (.bool false)∧(W.alloc ob).cell? ⟨d,3,none⟩=some (.int .i64 0)∧(W.alloc ob).cell? ⟨d,4,none⟩=some (.string ⟨name.toArray⟩)∧(W.alloc ob).cell? ⟨d,5,none⟩=some (.slice none 0 0)∧(W.alloc ob).cell? ⟨d,6,none⟩=some (.slice none 0 0)∧Open (w.heap.size+1) W3 (W.alloc ob)):=fun W ob hS=>hc _ (hS.2.2.2.2.2.2.2.2.2.2.2.2.alloc ob)
 have hT:∀ W i v,(W.cell? ⟨w.heap.size,8,none⟩=some (.int .i64 version)∧W.cell? ⟨w.heap.size,9,none⟩=some (.string ⟨text.toArray⟩)∧W.cell? ⟨w.heap.size,10,none⟩=some (.slice ca cm cc)∧W.cell? ⟨w.heap.size,11,none⟩=some (.int .i64 pl)∧W.cell? ⟨w.heap.size,12,none⟩=some (.int .i64 pu)∧W.cell? ⟨d,0,none⟩=some (.string ⟨#[117,114,105]⟩)∧W.cell? ⟨d,1,none⟩=some (.int .i64 3)∧W.cell? ⟨d,2,none⟩=some (.bool false)∧W.cell? ⟨d,3,none⟩=some (.int .i64 0)∧W.cell? ⟨d,4,none⟩=some (.string ⟨name.toArray⟩)∧W.cell? ⟨d,5,none⟩=some (.slice none 0 0)∧W.cell? ⟨d,6,none⟩=some (.slice none 0 0)∧Open (w.heap.size+1) W3 W)→((W.setCell ⟨w.heap.size+1,i,none⟩ v).cell? ⟨w.heap.size,8,none⟩=some (.int .i64 version)∧(W.setCell ⟨w.heap.size+1,i,none⟩ v).cell? ⟨w.heap.size,9,none⟩=some (.string ⟨text.toArray⟩)∧(W.setCell ⟨w.heap.size+1,i,none⟩ v).cell? ⟨w.heap.size,10,none⟩=some (.slice ca cm cc)∧(W.setCell ⟨w.heap.size+1,i,none⟩ v).cell? ⟨w.heap.size,11,none⟩=some (.int .i64 pl)∧(W.setCell ⟨w.heap.size+1,i,none⟩ v).cell? ⟨w.heap.size,12,none⟩=some (.int .i64 pu)∧(W.setCell ⟨w.heap.size+1,i,none⟩ v).cell? ⟨d,0,none⟩=some (.string ⟨#[117,114,105]⟩)∧(W.setCell ⟨w.heap.size+1,i,none⟩ v).cell? ⟨d,1,none⟩=some (.int .i64 3)∧(W.setCell ⟨w.heap.size+1,i,none⟩ v).cell? ⟨d,2,none⟩=some (.bool false)∧(W.setCell ⟨w.heap.size+1,i,none⟩ v).cell? ⟨d,3,none⟩=some (.int .i64 0)∧(W.setCell ⟨w.heap.size+1,i,none⟩ v).cell? ⟨d,4,none⟩=some (.string ⟨name.toArray⟩)∧(W.setCell ⟨w.heap.size+1,i,none⟩ v).cell? ⟨d,5,none⟩=some (.slice none 0 0)∧(W.setCell ⟨w.heap.size+1,i,none⟩ v).cell? ⟨d,6,none⟩=some (.slice none 0 0)∧Open (w.heap.size+1) W3 (W.setCell ⟨w.heap.size+1,i,none⟩ v)):=fun W i v hS=>hc _ (hS.2.2.2.2.2.2.2.2.2.2.2.2.set i v)
 have hS0:(W3.drew.cell? ⟨w.heap.size,8,none⟩=some (.int .i64 version)∧W3.drew.cell? ⟨w.heap.size,9,none⟩=some (.string ⟨text.toArray⟩)∧W3.drew.cell? ⟨w.heap.size,10,none⟩=some (.slice ca cm cc)∧W3.drew.cell? ⟨w.heap.size,11,none⟩=some (.int .i64 pl)∧W3.drew.cell? ⟨w.heap.size,12,none⟩=some (.int .i64 pu)∧W3.drew.cell? ⟨d,0,none⟩=some (.string ⟨#[117,114,105]⟩)∧W3.drew.cell? ⟨d,1,none⟩=some (.int .i64 3)∧W3.drew.cell? ⟨d,2,none⟩=some (.bool false)∧W3.drew.cell? ⟨d,3,none⟩=some (.int .i64 0)∧W3.drew.cell? ⟨d,4,none⟩=some (.string ⟨name.toArray⟩)∧W3.drew.cell? ⟨d,5,none⟩=some (.slice none 0 0)∧W3.drew.cell? ⟨d,6,none⟩=some (.slice none 0 0)∧Open (w.heap.size+1) W3 (W3.drew)):=hc _ hO3.drew
 have hvA:∀ W ob R v lv kv,ValIn W R v lv kv→ValIn (W.alloc ob) R v lv kv:=fun W ob R v lv kv h=>val_below h ((Below.refl _ _).alloc (Nat.le_refl _) ob)
 have hAD:∀ ob,(((W3.alloc ob).drew).cell? ⟨w.heap.size,8,none⟩=some (.int .i64 version)∧((W3.alloc ob).drew).cell? ⟨w.heap.size,9,none⟩=some (.string ⟨text.toArray⟩)∧((W3.alloc ob).drew).cell? ⟨w.heap.size,10,none⟩=some (.slice ca cm cc)∧((W3.alloc ob).drew).cell? ⟨w.heap.size,11,none⟩=some (.int .i64 pl)∧((W3.alloc ob).drew).cell? ⟨w.heap.size,12,none⟩=some (.int .i64 pu)∧((W3.alloc ob).drew).cell? ⟨d,0,none⟩=some (.string ⟨#[117,114,105]⟩)∧((W3.alloc ob).drew).cell? ⟨d,1,none⟩=some (.int .i64 3)∧((W3.alloc ob).drew).cell? ⟨d,2,none⟩=some (.bool false)∧((W3.alloc ob).drew).cell? ⟨d,3,none⟩=some (.int .i64 0)∧((W3.alloc ob).drew).cell? ⟨d,4,none⟩=some (.string ⟨name.toArray⟩)∧((W3.alloc ob).drew).cell? ⟨d,5,none⟩=some (.slice none 0 0)∧((W3.alloc ob).drew).cell? ⟨d,6,none⟩=some (.slice none 0 0)∧Open (w.heap.size+1) W3 ((W3.alloc ob).drew)):=fun ob=>hc _ (hO3.alloc ob).drew
 have hSW:(W3.cell? ⟨w.heap.size,8,none⟩=some (.int .i64 version)∧W3.cell? ⟨w.heap.size,9,none⟩=some (.string ⟨text.toArray⟩)∧W3.cell? ⟨w.heap.size,10,none⟩=some (.slice ca cm cc)∧W3.cell? ⟨w.heap.size,11,none⟩=some (.int .i64 pl)∧W3.cell? ⟨w.heap.size,12,none⟩=some (.int .i64 pu)∧W3.cell? ⟨d,0,none⟩=some (.string ⟨#[117,114,105]⟩)∧W3.cell? ⟨d,1,none⟩=some (.int .i64 3)∧W3.cell? ⟨d,2,none⟩=some (.bool false)∧W3.cell? ⟨d,3,none⟩=some (.int .i64 0)∧W3.cell? ⟨d,4,none⟩=some (.string ⟨name.toArray⟩)∧W3.cell? ⟨d,5,none⟩=some (.slice none 0 0)∧W3.cell? ⟨d,6,none⟩=some (.slice none 0 0)∧Open (w.heap.size+1) W3 W3):=hc _ hO3
 rw [hd]
 rw [hW3]
 clear hc hW3 hd hx3 hO3 hO3a
 go_upto_region 6 with fail
 go_region_held3 (fun W=>(W.cell? ⟨w.heap.size,8,none⟩=some (.int .i64 version)∧W.cell? ⟨w.heap.size,9,none⟩=some (.string ⟨text.toArray⟩)∧W.cell? ⟨w.heap.size,10,none⟩=some (.slice ca cm cc)∧W.cell? ⟨w.heap.size,11,none⟩=some (.int .i64 pl)∧W.cell? ⟨w.heap.size,12,none⟩=some (.int .i64 pu)∧W.cell? ⟨d,0,none⟩=some (.string ⟨#[117,114,105]⟩)∧W.cell? ⟨d,1,none⟩=some (.int .i64 3)∧W.cell? ⟨d,2,none⟩=some (.bool false)∧W.cell? ⟨d,3,none⟩=some (.int .i64 0)∧W.cell? ⟨d,4,none⟩=some (.string ⟨name.toArray⟩)∧W.cell? ⟨d,5,none⟩=some (.slice none 0 0)∧W.cell? ⟨d,6,none⟩=some (.slice none 0 0)∧Open (w.heap.size+1) W3 W)) (with_reducible (repeat (first|assumption|exact hAD _|refine hA _ _ ?_|refine hT _ _ _ ?_))) (first
  | (go_at_call 51;(with_reducible refine (cN _ _ ?_).mono ?_);(with_reducible assumption);rintro e wn ⟨rfl,hSn⟩)
  | (go_at_call 31;(with_reducible refine (cT _ ?_).mono ?_);(with_reducible assumption);rintro e wt ⟨rfl,hSt⟩)
  | (go_at_call 50;(with_reducible refine (cR _ _ ?_ ?_).mono ?_);(with_reducible (repeat (first|assumption|exact hAD _|refine hA _ _ ?_)));(first|exact heap_alloc_new _ _|exact heap_alloc_new W3 _);rintro e wr ⟨a1,a2,a3,a4,rfl,hvr,hSr⟩)
  | (go_at_call 57;(with_reducible refine (cO _ a1 a2 a3 a4 ?_ ?_).mono ?_);(with_reducible assumption);(exact hvr.out);rintro e wo ⟨e1,e2,e3,e4,y0,y1,y2,y3,y4,y5,rfl,hv,k0,k1,k2,k3,k4,k5,kf,hh,hSo⟩))
 obtain ⟨HP1,HMB,HV4⟩:=ret6 hh.out (hSo.2.2.2.2.2.2.2.2.2.2.2.2.below HB3.out (Nat.le_succ _) HB3.out.size) (Nat.le_succ _) hv.out (fun b hb=>by omega)
 have HVE:=Lib.hid (ValIn.later (R':=fun b=>w.heap.size≤b) (fun _ _ _=>rfl) (fun b hb=>by omega) _ _ _ HV4.out)
 clear hA hT cR cO hS0 hvA hAD hSW p0 p8 p9 p10 p11 p12 d0 d1 d2 d3 d4 d5 d6
 go_wp2_with fail
 (try simp only [Exit.inBlock,Exit.then])
 refine bodyPost_ret (v:=.agg #[.int .i64 5,.bool false,.int .i64 0,.string ⟨#[]⟩,.slice e1 1 e2,.slice e3 1 e4]) (results_cell_row rfl _ _ (w.heap.size+1) 36 #[.int .i64 5,.bool false,.int .i64 0,.string ⟨#[]⟩,.slice e1 1 e2,.slice e3 1 e4] (0,0) _ (by rfl) HP1.out Tryz.underlying36 rfl (by kernel_rfl)) rfl ?_
 exact ⟨HMB.out,.slice e1 1 e2,.slice e3 1 e4,rfl,HVE.out⟩
end Go.Proofs.YtpbnhnilfpoljaaGreatDoor.M
