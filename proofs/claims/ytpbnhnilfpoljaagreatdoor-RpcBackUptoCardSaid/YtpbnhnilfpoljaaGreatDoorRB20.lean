/- What the claim needs of the texts MMake9. -/
import Derived.Test.YtpbnhnilfpoljaaGreatDoorRB19
namespace Go.Proofs.YtpbnhnilfpoljaaGreatDoor.M
open Go.RowKit
open Go.Lib Go.Proofs.YtpbnhnilfpoljaaGreatDoor.V
set_option maxHeartbeats 8000000 in
set_option maxRecDepth 100000 in
theorem params_change (iso inn oso onn version pl pu:Int) (ion oon:Bool) (itx otx name text:List UInt8) (ilst olst:List Val) (iks oks:List (List UInt8)) (chs:List EditP) (ia1 ia2 oa1 oa2 ca:Option Addr) (ic1 ic2 oc1 oc2 cc im1 im2 om1 om2 cm:Nat) (R:Nat→Prop) (w:World) (hcm:chs.length=cm) (hch:EditsIn w R chs (.slice ca cm cc)) (hcl:chs.length≤1000) :
  Calls Tryz.prog 32 #[.agg #[.int .i64 5,.int .i64 iso,.bool ion,.int .i64 inn,.string ⟨itx.toArray⟩,.slice ia1 im1 ic1,.slice ia2 im2 ic2,.string ⟨name.toArray⟩,.int .i64 version,.string ⟨text.toArray⟩,.slice ca cm cc,.int .i64 pl,.int .i64 pu,.int .i64 oso,.bool oon,.int .i64 onn,.string ⟨otx.toArray⟩,.slice oa1 om1 oc1,.slice oa2 om2 oc2]] w fun e w'=>Below w.heap.size w w'∧∃ lv kv,e=.returned (arg (toldV ⟨5,(.mk iso ion inn itx ilst iks),name,version,text,chs,⟨pl,pu⟩,(.mk oso oon onn otx olst oks)⟩) lv kv)∧ValIn w' (fun b=>w.heap.size≤b) (toldV ⟨5,(.mk iso ion inn itx ilst iks),name,version,text,chs,⟨pl,pu⟩,(.mk oso oon onn otx olst oks)⟩) lv kv:=by
 have ht:toldV ⟨5,(.mk iso ion inn itx ilst iks),name,version,text,chs,⟨pl,pu⟩,(.mk oso oon onn otx olst oks)⟩=recP [bDoc,bChanges] [recP [bUri,bVersion] [strP name,numP version],listV chs]:=rfl
 rw [ht]
 clear ht
 have HCM:=Lib.hid hcm
 obtain ⟨h1,h2,h3,h4⟩:=two w (.cells #[.int .i64 5,.int .i64 iso,.bool ion,.int .i64 inn,.string ⟨itx.toArray⟩,.slice ia1 im1 ic1,.slice ia2 im2 ic2,.string ⟨name.toArray⟩,.int .i64 version,.string ⟨text.toArray⟩,.slice ca cm cc,.int .i64 pl,.int .i64 pu,.int .i64 oso,.bool oon,.int .i64 onn,.string ⟨otx.toArray⟩,.slice oa1 om1 oc1,.slice oa2 om2 oc2] 43) (.cells #[.int .i64 0,.bool false,.int .i64 0,.string ⟨#[]⟩,.slice none 0 0,.slice none 0 0] 36)
 obtain ⟨W2,hW2⟩:∃ W2,(w.alloc (.cells #[.int .i64 5,.int .i64 iso,.bool ion,.int .i64 inn,.string ⟨itx.toArray⟩,.slice ia1 im1 ic1,.slice ia2 im2 ic2,.string ⟨name.toArray⟩,.int .i64 version,.string ⟨text.toArray⟩,.slice ca cm cc,.int .i64 pl,.int .i64 pu,.int .i64 oso,.bool oon,.int .i64 onn,.string ⟨otx.toArray⟩,.slice oa1 om1 oc1,.slice oa2 om2 oc2] 43)).alloc (.cells #[.int .i64 0,.bool false,.int .i64 0,.string ⟨#[]⟩,.slice none 0 0,.slice none 0 0] 36)=W2:=⟨_,rfl⟩
 rw [hW2] at h1 h2 h3 h4
 have q0:W2.cell? ⟨w.heap.size,0,none⟩=some (.int .i64 5):=by unfold World.cell?;rw [h1];rfl
 have q1:W2.cell? ⟨w.heap.size,1,none⟩=some (.int .i64 iso):=by unfold World.cell?;rw [h1];rfl
 have q2:W2.cell? ⟨w.heap.size,2,none⟩=some (.bool ion):=by unfold World.cell?;rw [h1];rfl
 have q3:W2.cell? ⟨w.heap.size,3,none⟩=some (.int .i64 inn):=by unfold World.cell?;rw [h1];rfl
 have q4:W2.cell? ⟨w.heap.size,4,none⟩=some (.string ⟨itx.toArray⟩):=by unfold World.cell?;rw [h1];rfl
 have q5:W2.cell? ⟨w.heap.size,5,none⟩=some (.slice ia1 im1 ic1):=by unfold World.cell?;rw [h1];rfl
 have q6:W2.cell? ⟨w.heap.size,6,none⟩=some (.slice ia2 im2 ic2):=by unfold World.cell?;rw [h1];rfl
 have q7:W2.cell? ⟨w.heap.size,7,none⟩=some (.string ⟨name.toArray⟩):=by unfold World.cell?;rw [h1];rfl
 have q8:W2.cell? ⟨w.heap.size,8,none⟩=some (.int .i64 version):=by unfold World.cell?;rw [h1];rfl
 have q9:W2.cell? ⟨w.heap.size,9,none⟩=some (.string ⟨text.toArray⟩):=by unfold World.cell?;rw [h1];rfl
 have q10:W2.cell? ⟨w.heap.size,10,none⟩=some (.slice ca cm cc):=by unfold World.cell?;rw [h1];rfl
 have q11:W2.cell? ⟨w.heap.size,11,none⟩=some (.int .i64 pl):=by unfold World.cell?;rw [h1];rfl
 have q12:W2.cell? ⟨w.heap.size,12,none⟩=some (.int .i64 pu):=by unfold World.cell?;rw [h1];rfl
 have q13:W2.cell? ⟨w.heap.size,13,none⟩=some (.int .i64 oso):=by unfold World.cell?;rw [h1];rfl
 have q14:W2.cell? ⟨w.heap.size,14,none⟩=some (.bool oon):=by unfold World.cell?;rw [h1];rfl
 have q15:W2.cell? ⟨w.heap.size,15,none⟩=some (.int .i64 onn):=by unfold World.cell?;rw [h1];rfl
 have q16:W2.cell? ⟨w.heap.size,16,none⟩=some (.string ⟨otx.toArray⟩):=by unfold World.cell?;rw [h1];rfl
 have q17:W2.cell? ⟨w.heap.size,17,none⟩=some (.slice oa1 om1 oc1):=by unfold World.cell?;rw [h1];rfl
 have q18:W2.cell? ⟨w.heap.size,18,none⟩=some (.slice oa2 om2 oc2):=by unfold World.cell?;rw [h1];rfl
 have hz2:w.heap.size+2≤W2.heap.size:=by omega
 have hne:w.heap.size≠w.heap.size+1:=by omega
 have HB2:=Lib.hid h3
 have HO2:=Lib.hid (Open.start h2)
 go_enter Tryz.func32,Tryz.ntmps32
 clear h1 h2 h3 h4
 go_wp2_with fail
 refine (text_any ⟨name.toArray⟩ _).mono ?_
 rintro e w1 ⟨rfl,hb1⟩
 have hO1:=HO2.out.later hb1
 go_upto_region 4 with fail
 obtain ⟨d,hd⟩:∃ d,w1.heap.size=d:=⟨_,rfl⟩
 obtain ⟨W3,hW3⟩:∃ W3,w1.alloc (.cells #[.string ⟨#[117,114,105]⟩,.int .i64 3,.bool false,.int .i64 0,.string ⟨name.toArray⟩,.slice none 0 0,.slice none 0 0] 78)=W3:=⟨_,rfl⟩
 have hx3:W3.heap[d]?=some (.cells #[.string ⟨#[117,114,105]⟩,.int .i64 3,.bool false,.int .i64 0,.string ⟨name.toArray⟩,.slice none 0 0,.slice none 0 0] 78 (0,0)):=by rw [← hW3,← hd];exact heap_alloc_new _ _
 have hO3a:Open (w.heap.size+1) W2 W3:=by rw [← hW3];exact hO1.alloc _
 have hO3:=hO3a.now
 have hz3:W2.heap.size≤W3.heap.size:=hO3a.size
 have HB3:=Lib.hid (hO3a.below HB2.out (Nat.le_succ _) (by omega))
 have hdq:w.heap.size+1<d:=by have:=hO1.size;omega
 have hnd:d≠w.heap.size+1:=by omega
 have p0:=hO3a.cell q0 hne
 have p8:=hO3a.cell q8 hne
 have p9:=hO3a.cell q9 hne
 have p10:=hO3a.cell q10 hne
 have p11:=hO3a.cell q11 hne
 have p12:=hO3a.cell q12 hne
 have d0:W3.cell? ⟨d,0,none⟩=some (.string ⟨#[117,114,105]⟩):=by unfold World.cell?;rw [hx3];rfl
 have d1:W3.cell? ⟨d,1,none⟩=some (.int .i64 3):=by unfold World.cell?;rw [hx3];rfl
 have d2:W3.cell? ⟨d,2,none⟩=some (.bool false):=by unfold World.cell?;rw [hx3];rfl
 have d3:W3.cell? ⟨d,3,none⟩=some (.int .i64 0):=by unfold World.cell?;rw [hx3];rfl
 have d4:W3.cell? ⟨d,4,none⟩=some (.string ⟨name.toArray⟩):=by unfold World.cell?;rw [hx3];rfl
 have d5:W3.cell? ⟨d,5,none⟩=some (.slice none 0 0):=by unfold World.cell?;rw [hx3];rfl
 have d6:W3.cell? ⟨d,6,none⟩=some (.slice none 0 0):=by unfold World.cell?;rw [hx3];rfl
 clear q0 q1 q2 q3 q4 q5 q6 q7 q8 q9 q10 q11 q12 q13 q14 q15 q16 q17 q18 hW2 hb1 hO1
 have hc:∀ W,Open (w.heap.size+1) W3 W→(W.cell? ⟨w.heap.size,8,none⟩=some (.int .i64 version)∧W.cell? ⟨w.heap.size,9,none⟩=some (.string ⟨text.toArray⟩)∧W.cell? ⟨w.heap.size,10,none⟩=some (.slice ca cm cc)∧W.cell? ⟨w.heap.size,11,none⟩=some (.int .i64 pl)∧W.cell? ⟨w.heap.size,12,none⟩=some (.int .i64 pu)∧W.cell? ⟨d,0,none⟩=some (.string ⟨#[117,114,105]⟩)∧W.cell? ⟨d,1,none⟩=some (.int .i64 3)∧W.cell? ⟨d,2,none⟩=some (.bool false)∧W.cell? ⟨d,3,none⟩=some (.int .i64 0)∧W.cell? ⟨d,4,none⟩=some (.string ⟨name.toArray⟩)∧W.cell? ⟨d,5,none⟩=some (.slice none 0 0)∧W.cell? ⟨d,6,none⟩=some (.slice none 0 0)∧Open (w.heap.size+1) W3 W):=fun W hO=>⟨hO.cell p8 hne,hO.cell p9 hne,hO.cell p10 hne,hO.cell p11 hne,hO.cell p12 hne,hO.cell d0 hnd,hO.cell d1 hnd,hO.cell d2 hnd,hO.cell d3 hnd,hO.cell d4 hnd,hO.cell d5 hnd,hO.cell d6 hnd,hO⟩
 have cN:∀ n W,(W.cell? ⟨w.heap.size,8,none⟩=some (.int .i64 version)∧W.cell? ⟨w.heap.size,9,none⟩=some (.string ⟨text.toArray⟩)∧W.cell? ⟨w.heap.size,10,none⟩=some (.slice ca cm cc)∧W.cell? ⟨w.heap.size,11,none⟩=some (.int .i64 pl)∧W.cell? ⟨w.heap.size,12,none⟩=some (.int .i64 pu)∧W.cell? ⟨d,0,none⟩=some (.string ⟨#[117,114,105]⟩)∧W.cell? ⟨d,1,none⟩=some (.int .i64 3)∧W.cell? ⟨d,2,none⟩=some (.bool false)∧W.cell? ⟨d,3,none⟩=some (.int .i64 0)∧W.cell? ⟨d,4,none⟩=some (.string ⟨name.toArray⟩)∧W.cell? ⟨d,5,none⟩=some (.slice none 0 0)∧W.cell? ⟨d,6,none⟩=some (.slice none 0 0)∧Open (w.heap.size+1) W3 W)→Calls Tryz.prog 51 #[.int .i64 n] W fun e w'=>e=.returned (.agg #[.int .i64 2,.bool false,.int .i64 n,.string ⟨#[]⟩,.slice none 0 0,.slice none 0 0])∧(w'.cell? ⟨w.heap.size,8,none⟩=some (.int .i64 version)∧w'.cell? ⟨w.heap.size,9,none⟩=some (.string ⟨text.toArray⟩)∧w'.cell? ⟨w.heap.size,10,none⟩=some (.slice ca cm cc)∧w'.cell? ⟨w.heap.size,11,none⟩=some (.int .i64 pl)∧w'.cell? ⟨w.heap.size,12,none⟩=some (.int .i64 pu)∧w'.cell? ⟨d,0,none⟩=some (.string ⟨#[117,114,105]⟩)∧w'.cell? ⟨d,1,none⟩=some (.int .i64 3)∧w'.cell? ⟨d,2,none⟩=some (.bool false)∧w'.cell? ⟨d,3,none⟩=some (.int .i64 0)∧w'.cell? ⟨d,4,none⟩=some (.string ⟨name.toArray⟩)∧w'.cell? ⟨d,5,none⟩=some (.slice none 0 0)∧w'.cell? ⟨d,6,none⟩=some (.slice none 0 0)∧Open (w.heap.size+1) W3 w'):=fun n W hS=>by
  refine (number_any n W).mono ?_
  rintro e w' ⟨h1,h2⟩
  exact ⟨h1,hc _ (hS.2.2.2.2.2.2.2.2.2.2.2.2.later h2)⟩
 have cR:∀ W g,(W.cell? ⟨w.heap.size,8,none⟩=some (.int .i64 version)∧W.cell? ⟨w.heap.size,9,none⟩=some (.string ⟨text.toArray⟩)∧W.cell? ⟨w.heap.size,10,none⟩=some (.slice ca cm cc)∧W.cell? ⟨w.heap.size,11,none⟩=some (.int .i64 pl)∧W.cell? ⟨w.heap.size,12,none⟩=some (.int .i64 pu)∧W.cell? ⟨d,0,none⟩=some (.string ⟨#[117,114,105]⟩)∧W.cell? ⟨d,1,none⟩=some (.int .i64 3)∧W.cell? ⟨d,2,none⟩=some (.bool false)∧W.cell? ⟨d,3,none⟩=some (.int .i64 0)∧W.cell? ⟨d,4,none⟩=some (.string ⟨name.toArray⟩)∧W.cell? ⟨d,5,none⟩=some (.slice none 0 0)∧W.cell? ⟨d,6,none⟩=some (.slice none 0 0)∧Open (w.heap.size+1) W3 W)→W.heap[g]?=some (.cells #[.string ⟨#[117,114,105]⟩,.int .i64 3,.bool false,.int .i64 0,.string ⟨name.toArray⟩,.slice none 0 0,.slice none 0 0,.string ⟨#[118,101,114,115,105,111,110]⟩,.int .i64 2,.bool false,.int .i64 version,.string ⟨#[]⟩,.slice none 0 0,.slice none 0 0] 78 (0,0))→Calls Tryz.prog 50 #[.slice (some ⟨g,0,none⟩) 2 2] W fun e w'=>∃ a1 a2 a3 a4,e=.returned (.agg #[.int .i64 5,.bool false,.int .i64 0,.string ⟨#[]⟩,.slice a1 2 a2,.slice a3 2 a4])∧Hid (ValIn w' (fun b=>W3.heap.size≤b) (recP [bUri,bVersion] [strP name,numP version]) (.slice a1 2 a2) (.slice a3 2 a4))∧(w'.cell? ⟨w.heap.size,8,none⟩=some (.int .i64 version)∧w'.cell? ⟨w.heap.size,9,none⟩=some (.string ⟨text.toArray⟩)∧w'.cell? ⟨w.heap.size,10,none⟩=some (.slice ca cm cc)∧w'.cell? ⟨w.heap.size,11,none⟩=some (.int .i64 pl)∧w'.cell? ⟨w.heap.size,12,none⟩=some (.int .i64 pu)∧w'.cell? ⟨d,0,none⟩=some (.string ⟨#[117,114,105]⟩)∧w'.cell? ⟨d,1,none⟩=some (.int .i64 3)∧w'.cell? ⟨d,2,none⟩=some (.bool false)∧w'.cell? ⟨d,3,none⟩=some (.int .i64 0)∧w'.cell? ⟨d,4,none⟩=some (.string ⟨name.toArray⟩)∧w'.cell? ⟨d,5,none⟩=some (.slice none 0 0)∧w'.cell? ⟨d,6,none⟩=some (.slice none 0 0)∧Open (w.heap.size+1) W3 w'):=fun W g hS hg=>by
  have hO:=hS.2.2.2.2.2.2.2.2.2.2.2.2
  have hP:PartsAt W (fun _=>False) [(bUri,strP name),(bVersion,numP version)] g 0:=⟨_,cells_of_block hg,.slice none 0 0,.slice none 0 0,_,rfl,leaf_in _ _ _ _ _ _,.slice none 0 0,.slice none 0 0,[],rfl,leaf_in _ _ _ _ _ _,rfl⟩
  refine (made_rec (c:=2) (B:=W3.heap.size) hP (by simp) (fun b h=>h.elim) hO.size hO).mono ?_
  rintro e w' ⟨a1,a2,a3,a4,rfl,hv,hO'⟩
  exact ⟨a1,a2,a3,a4,rfl,hv,hc _ hO'.out⟩
 have cC:∀ W,(W.cell? ⟨w.heap.size,8,none⟩=some (.int .i64 version)∧W.cell? ⟨w.heap.size,9,none⟩=some (.string ⟨text.toArray⟩)∧W.cell? ⟨w.heap.size,10,none⟩=some (.slice ca cm cc)∧W.cell? ⟨w.heap.size,11,none⟩=some (.int .i64 pl)∧W.cell? ⟨w.heap.size,12,none⟩=some (.int .i64 pu)∧W.cell? ⟨d,0,none⟩=some (.string ⟨#[117,114,105]⟩)∧W.cell? ⟨d,1,none⟩=some (.int .i64 3)∧W.cell? ⟨d,2,none⟩=some (.bool false)∧W.cell? ⟨d,3,none⟩=some (.int .i64 0)∧W.cell? ⟨d,4,none⟩=some (.string ⟨name.toArray⟩)∧W.cell? ⟨d,5,none⟩=some (.slice none 0 0)∧W.cell? ⟨d,6,none⟩=some (.slice none 0 0)∧Open (w.heap.size+1) W3 W)→Calls Tryz.prog 58 #[.slice ca cm cc] W fun e w'=>∃ c1 c2,e=.returned (.agg #[.int .i64 4,.bool false,.int .i64 0,.string ⟨#[]⟩,.slice c1 cm c2,.slice none 0 0])∧Hid (ValIn w' (fun b=>W3.heap.size≤b) (listV chs) (.slice c1 cm c2) (.slice none 0 0))∧Hid (Below W.heap.size W w')∧(w'.cell? ⟨w.heap.size,8,none⟩=some (.int .i64 version)∧w'.cell? ⟨w.heap.size,9,none⟩=some (.string ⟨text.toArray⟩)∧w'.cell? ⟨w.heap.size,10,none⟩=some (.slice ca cm cc)∧w'.cell? ⟨w.heap.size,11,none⟩=some (.int .i64 pl)∧w'.cell? ⟨w.heap.size,12,none⟩=some (.int .i64 pu)∧w'.cell? ⟨d,0,none⟩=some (.string ⟨#[117,114,105]⟩)∧w'.cell? ⟨d,1,none⟩=some (.int .i64 3)∧w'.cell? ⟨d,2,none⟩=some (.bool false)∧w'.cell? ⟨d,3,none⟩=some (.int .i64 0)∧w'.cell? ⟨d,4,none⟩=some (.string ⟨name.toArray⟩)∧w'.cell? ⟨d,5,none⟩=some (.slice none 0 0)∧w'.cell? ⟨d,6,none⟩=some (.slice none 0 0)∧Open (w.heap.size+1) W3 w'):=fun W hS=>by
  have hO:=hS.2.2.2.2.2.2.2.2.2.2.2.2
  have hbw:=hO.below HB3.out (Nat.le_succ _) HB3.out.size
  refine (changes_any chs _ R W (hch.bound.later (fun b hb _=>hbw.block b hb.2) (fun b hb=>hb.1)) hcl).mono ?_
  rintro e w' ⟨h1,c1,c2,rfl,h3⟩
  rw [hcm] at h3 ⊢
  exact ⟨c1,c2,rfl,Lib.hid (ValIn.later (fun _ _ _=>rfl) (fun b hb=>Nat.le_trans hO.size hb) _ _ _ h3),Lib.hid h1,hc _ (hO.later h1)⟩
 have cO:∀ W g a1 a2 a3 a4 c1 c2,(W.cell? ⟨w.heap.size,8,none⟩=some (.int .i64 version)∧W.cell? ⟨w.heap.size,9,none⟩=some (.string ⟨text.toArray⟩)∧W.cell? ⟨w.heap.size,10,none⟩=some (.slice ca cm cc)∧W.cell? ⟨w.heap.size,11,none⟩=some (.int .i64 pl)∧W.cell? ⟨w.heap.size,12,none⟩=some (.int .i64 pu)∧W.cell? ⟨d,0,none⟩=some (.string ⟨#[117,114,105]⟩)∧W.cell? ⟨d,1,none⟩=some (.int .i64 3)∧W.cell? ⟨d,2,none⟩=some (.bool false)∧W.cell? ⟨d,3,none⟩=some (.int .i64 0)∧W.cell? ⟨d,4,none⟩=some (.string ⟨name.toArray⟩)∧W.cell? ⟨d,5,none⟩=some (.slice none 0 0)∧W.cell? ⟨d,6,none⟩=some (.slice none 0 0)∧Open (w.heap.size+1) W3 W)→ValIn W (fun b=>W3.heap.size≤b) (recP [bUri,bVersion] [strP name,numP version]) (.slice a1 2 a2) (.slice a3 2 a4)→ValIn W (fun b=>W3.heap.size≤b) (listV chs) (.slice c1 cm c2) (.slice none 0 0)→W.heap[g]?=some (.cells #[.string ⟨#[99,111,110,116,101,110,116,67,104,97,110,103,101,115]⟩,.int .i64 4,.bool false,.int .i64 0,.string ⟨#[]⟩,.slice c1 cm c2,.slice none 0 0] 78 (0,0))→Calls Tryz.prog 57 #[.agg #[.int .i64 5,.bool false,.int .i64 0,.string ⟨#[]⟩,.slice a1 2 a2,.slice a3 2 a4],.slice (some ⟨g,0,none⟩) 1 1] W fun e w'=>∃ e1 e2 e3 e4 y0 y1 y2 y3 y4 y5,e=.returned (.agg #[.int .i64 5,.bool false,.int .i64 0,.string ⟨#[]⟩,.slice e1 2 e2,.slice e3 2 e4])∧Hid (ValIn w' (fun b=>W3.heap.size≤b) (recP [bDoc,bChanges] [recP [bUri,bVersion] [strP name,numP version],listV chs]) (.slice e1 2 e2) (.slice e3 2 e4))∧w'.cell? ⟨w.heap.size+1,0,none⟩=some y0∧w'.cell? ⟨w.heap.size+1,1,none⟩=some y1∧w'.cell? ⟨w.heap.size+1,2,none⟩=some y2∧w'.cell? ⟨w.heap.size+1,3,none⟩=some y3∧w'.cell? ⟨w.heap.size+1,4,none⟩=some y4∧w'.cell? ⟨w.heap.size+1,5,none⟩=some y5∧(∀ i,w'.frozen? ⟨w.heap.size+1,i,none⟩=false)∧Hid (w'.heap[w.heap.size+1]?=some (.cells #[y0,y1,y2,y3,y4,y5] 36 (0,0)))∧(w'.cell? ⟨w.heap.size,8,none⟩=some (.int .i64 version)∧w'.cell? ⟨w.heap.size,9,none⟩=some (.string ⟨text.toArray⟩)∧w'.cell? ⟨w.heap.size,10,none⟩=some (.slice ca cm cc)∧w'.cell? ⟨w.heap.size,11,none⟩=some (.int .i64 pl)∧w'.cell? ⟨w.heap.size,12,none⟩=some (.int .i64 pu)∧w'.cell? ⟨d,0,none⟩=some (.string ⟨#[117,114,105]⟩)∧w'.cell? ⟨d,1,none⟩=some (.int .i64 3)∧w'.cell? ⟨d,2,none⟩=some (.bool false)∧w'.cell? ⟨d,3,none⟩=some (.int .i64 0)∧w'.cell? ⟨d,4,none⟩=some (.string ⟨name.toArray⟩)∧w'.cell? ⟨d,5,none⟩=some (.slice none 0 0)∧w'.cell? ⟨d,6,none⟩=some (.slice none 0 0)∧Open (w.heap.size+1) W3 w'):=fun W g a1 a2 a3 a4 c1 c2 hS hva hvb hg=>by
  have hO:=hS.2.2.2.2.2.2.2.2.2.2.2.2
  have hP:PartsAt W (fun b=>W3.heap.size≤b) [(bChanges,listV chs)] g 0:=⟨_,cells_of_block hg,.slice c1 cm c2,.slice none 0 0,[],rfl,hvb,rfl⟩
  refine (ofdoc_some 5 false 0 [] _ _ a1 a3 a2 a4 [(bChanges,listV chs)] g 0 1 (fun b=>W3.heap.size≤b) W hva hP (by simp) (by simp)).mono ?_
  rintro e w' ⟨hb,lv,kv,rfl,hv⟩
  have hv':=hv
  obtain ⟨⟨e1,e2,rfl,_⟩,⟨e3,e4,rfl,_⟩⟩:=hv'
  obtain ⟨y0,y1,y2,y3,y4,y5,k0,k1,k2,k3,k4,k5,kf,hh⟩:=(hO.later hb).cells
  exact ⟨e1,e2,e3,e4,y0,y1,y2,y3,y4,y5,rfl,Lib.hid (ValIn.later (fun _ _ _=>rfl) (fun b hb=>hb.elim id (fun h=>Nat.le_trans hO.size h)) _ _ _ hv),k0,k1,k2,k3,k4,k5,kf,hh,hc _ (hO.later hb)⟩
 have hA:∀ W ob,(W.cell? ⟨w.heap.size,8,none⟩=some (.int .i64 version)∧W.cell? ⟨w.heap.size,9,none⟩=some (.string ⟨text.toArray⟩)∧W.cell? ⟨w.heap.size,10,none⟩=some (.slice ca cm cc)∧W.cell? ⟨w.heap.size,11,none⟩=some (.int .i64 pl)∧W.cell? ⟨w.heap.size,12,none⟩=some (.int .i64 pu)∧W.cell? ⟨d,0,none⟩=some (.string ⟨#[117,114,105]⟩)∧W.cell? ⟨d,1,none⟩=some (.int .i64 3)∧W.cell? ⟨d,2,none⟩=some (.bool false)∧W.cell? ⟨d,3,none⟩=some (.int .i64 0)∧W.cell? ⟨d,4,none⟩=some (.string ⟨name.toArray⟩)∧W.cell? ⟨d,5,none⟩=some (.slice none 0 0)∧W.cell? ⟨d,6,none⟩=some (.slice none 0 0)∧Open (w.heap.size+1) W3 W)→((W.alloc ob).cell? ⟨w.heap.size,8,none⟩=some (.int .i64 version)∧(W.alloc ob).cell? ⟨w.heap.size,9,none⟩=some (.string ⟨text.toArray⟩)∧(W.alloc ob).cell? ⟨w.heap.size,10,none⟩=some (.slice ca cm cc)∧(W.alloc ob).cell? ⟨w.heap.size,11,none⟩=some (.int .i64 pl)∧(W.alloc ob).cell? ⟨w.heap.size,12,none⟩=some (.int .i64 pu)∧(W.alloc ob).cell? ⟨d,0,none⟩=some (.string ⟨#[117,114,105]⟩)∧(W.alloc ob).cell? ⟨d,1,none⟩=some (.int .i64 3)∧(W.alloc ob).cell? ⟨d,2,none⟩=some (.bool false)∧(W.alloc ob).cell? ⟨d,3,none⟩=some (.int .i64 0)∧(W.alloc ob).cell? ⟨d,4,none⟩=some (.string ⟨name.toArray⟩)∧(W.alloc ob).cell? ⟨d,5,none⟩=some (.slice none 0 0)∧(W.alloc ob).cell? ⟨d,6,none⟩=some (.slice none 0 0)∧Open (w.heap.size+1) W3 (W.alloc ob)):=fun W ob hS=>hc _ (hS.2.2.2.2.2.2.2.2.2.2.2.2.alloc ob)
 have hT:∀ W i v,(W.cell? ⟨w.heap.size,8,none⟩=some (.int .i64 version)∧W.cell? ⟨w.heap.size,9,none⟩=some (.string ⟨text.toArray⟩)∧W.cell? ⟨w.heap.size,10,none⟩=some (.slice ca cm cc)∧W.cell? ⟨w.heap.size,11,none⟩=some (.int .i64 pl)∧W.cell? ⟨w.heap.size,12,none⟩=some (.int .i64 pu)∧W.cell? ⟨d,0,none⟩=some (.string ⟨#[117,114,105]⟩)∧W.cell? ⟨d,1,none⟩=some (.int .i64 3)∧W.cell? ⟨d,2,none⟩=some (.bool false)∧W.cell? ⟨d,3,none⟩=some (.int .i64 0)∧W.cell? ⟨d,4,none⟩=some (.string ⟨name.toArray⟩)∧W.cell? ⟨d,5,none⟩=some (.slice none 0 0)∧W.cell? ⟨d,6,none⟩=some (.slice none 0 0)∧Open (w.heap.size+1) W3 W)→((W.setCell ⟨w.heap.size+1,i,none⟩ v).cell? ⟨w.heap.size,8,none⟩=some (.int .i64 version)∧(W.setCell ⟨w.heap.size+1,i,none⟩ v).cell? ⟨w.heap.size,9,none⟩=some (.string ⟨text.toArray⟩)∧(W.setCell ⟨w.heap.size+1,i,none⟩ v).cell? ⟨w.heap.size,10,none⟩=some (.slice ca cm cc)∧(W.setCell ⟨w.heap.size+1,i,none⟩ v).cell? ⟨w.heap.size,11,none⟩=some (.int .i64 pl)∧(W.setCell ⟨w.heap.size+1,i,none⟩ v).cell? ⟨w.heap.size,12,none⟩=some (.int .i64 pu)∧(W.setCell ⟨w.heap.size+1,i,none⟩ v).cell? ⟨d,0,none⟩=some (.string ⟨#[117,114,105]⟩)∧(W.setCell ⟨w.heap.size+1,i,none⟩ v).cell? ⟨d,1,none⟩=some (.int .i64 3)∧(W.setCell ⟨w.heap.size+1,i,none⟩ v).cell? ⟨d,2,none⟩=some (.bool false)∧(W.setCell ⟨w.heap.size+1,i,none⟩ v).cell? ⟨d,3,none⟩=some (.int .i64 0)∧(W.setCell ⟨w.heap.size+1,i,none⟩ v).cell? ⟨d,4,none⟩=some (.string ⟨name.toArray⟩)∧(W.setCell ⟨w.heap.size+1,i,none⟩ v).cell? ⟨d,5,none⟩=some (.slice none 0 0)∧(W.setCell ⟨w.heap.size+1,i,none⟩ v).cell? ⟨d,6,none⟩=some (.slice none 0 0)∧Open (w.heap.size+1) W3 (W.setCell ⟨w.heap.size+1,i,none⟩ v)):=fun W i v hS=>hc _ (hS.2.2.2.2.2.2.2.2.2.2.2.2.set i v)
 have hS0:(W3.drew.cell? ⟨w.heap.size,8,none⟩=some (.int .i64 version)∧W3.drew.cell? ⟨w.heap.size,9,none⟩=some (.string ⟨text.toArray⟩)∧W3.drew.cell? ⟨w.heap.size,10,none⟩=some (.slice ca cm cc)∧W3.drew.cell? ⟨w.heap.size,11,none⟩=some (.int .i64 pl)∧W3.drew.cell? ⟨w.heap.size,12,none⟩=some (.int .i64 pu)∧W3.drew.cell? ⟨d,0,none⟩=some (.string ⟨#[117,114,105]⟩)∧W3.drew.cell? ⟨d,1,none⟩=some (.int .i64 3)∧W3.drew.cell? ⟨d,2,none⟩=some (.bool false)∧W3.drew.cell? ⟨d,3,none⟩=some (.int .i64 0)∧W3.drew.cell? ⟨d,4,none⟩=some (.string ⟨name.toArray⟩)∧W3.drew.cell? ⟨d,5,none⟩=some (.slice none 0 0)∧W3.drew.cell? ⟨d,6,none⟩=some (.slice none 0 0)∧Open (w.heap.size+1) W3 (W3.drew)):=hc _ hO3.drew
 have hvA:∀ W ob R v lv kv,ValIn W R v lv kv→ValIn (W.alloc ob) R v lv kv:=fun W ob R v lv kv h=>val_below h ((Below.refl _ _).alloc (Nat.le_refl _) ob)
 have hAD:∀ ob,(((W3.alloc ob).drew).cell? ⟨w.heap.size,8,none⟩=some (.int .i64 version)∧((W3.alloc ob).drew).cell? ⟨w.heap.size,9,none⟩=some (.string ⟨text.toArray⟩)∧((W3.alloc ob).drew).cell? ⟨w.heap.size,10,none⟩=some (.slice ca cm cc)∧((W3.alloc ob).drew).cell? ⟨w.heap.size,11,none⟩=some (.int .i64 pl)∧((W3.alloc ob).drew).cell? ⟨w.heap.size,12,none⟩=some (.int .i64 pu)∧((W3.alloc ob).drew).cell? ⟨d,0,none⟩=some (.string ⟨#[117,114,105]⟩)∧((W3.alloc ob).drew).cell? ⟨d,1,none⟩=some (.int .i64 3)∧((W3.alloc ob).drew).cell? ⟨d,2,none⟩=some (.bool false)∧((W3.alloc ob).drew).cell? ⟨d,3,none⟩=some (.int .i64 0)∧((W3.alloc ob).drew).cell? ⟨d,4,none⟩=some (.string ⟨name.toArray⟩)∧((W3.alloc ob).drew).cell? ⟨d,5,none⟩=some (.slice none 0 0)∧((W3.alloc ob).drew).cell? ⟨d,6,none⟩=some (.slice none 0 0)∧Open (w.heap.size+1) W3 ((W3.alloc ob).drew)):=fun ob=>hc _ (hO3.alloc ob).drew
 have hSW:(W3.cell? ⟨w.heap.size,8,none⟩=some (.int .i64 version)∧W3.cell? ⟨w.heap.size,9,none⟩=some (.string ⟨text.toArray⟩)∧W3.cell? ⟨w.heap.size,10,none⟩=some (.slice ca cm cc)∧W3.cell? ⟨w.heap.size,11,none⟩=some (.int .i64 pl)∧W3.cell? ⟨w.heap.size,12,none⟩=some (.int .i64 pu)∧W3.cell? ⟨d,0,none⟩=some (.string ⟨#[117,114,105]⟩)∧W3.cell? ⟨d,1,none⟩=some (.int .i64 3)∧W3.cell? ⟨d,2,none⟩=some (.bool false)∧W3.cell? ⟨d,3,none⟩=some (.int .i64 0)∧W3.cell? ⟨d,4,none⟩=some (.string ⟨name.toArray⟩)∧W3.cell? ⟨d,5,none⟩=some (.slice none 0 0)∧W3.cell? ⟨d,6,none⟩=some (.slice none 0 0)∧Open (w.heap.size+1) W3 W3):=hc _ hO3
 rw [hd]
 rw [hW3]
 clear hcm hch hcl hc hW3 hd hx3 hO3 hO3a
 go_upto_region 8 with fail
 go_region_held3 (fun W=>(W.cell? ⟨w.heap.size,8,none⟩=some (.int .i64 version)∧W.cell? ⟨w.heap.size,9,none⟩=some (.string ⟨text.toArray⟩)∧W.cell? ⟨w.heap.size,10,none⟩=some (.slice ca cm cc)∧W.cell? ⟨w.heap.size,11,none⟩=some (.int .i64 pl)∧W.cell? ⟨w.heap.size,12,none⟩=some (.int .i64 pu)∧W.cell? ⟨d,0,none⟩=some (.string ⟨#[117,114,105]⟩)∧W.cell? ⟨d,1,none⟩=some (.int .i64 3)∧W.cell? ⟨d,2,none⟩=some (.bool false)∧W.cell? ⟨d,3,none⟩=some (.int .i64 0)∧W.cell? ⟨d,4,none⟩=some (.string ⟨name.toArray⟩)∧W.cell? ⟨d,5,none⟩=some (.slice none 0 0)∧W.cell? ⟨d,6,none⟩=some (.slice none 0 0)∧Open (w.heap.size+1) W3 W)) (with_reducible (repeat (first|assumption|exact hAD _|refine hA _ _ ?_|refine hT _ _ _ ?_))) (first
  | (go_at_call 51;(with_reducible refine (cN _ _ ?_).mono ?_);(with_reducible assumption);rintro e wn ⟨rfl,hSn⟩)
  | (go_at_call 50;(with_reducible refine (cR _ _ ?_ ?_).mono ?_);(with_reducible (repeat (first|assumption|exact hAD _|refine hA _ _ ?_)));(first|exact heap_alloc_new _ _|exact heap_alloc_new W3 _);rintro e wr ⟨a1,a2,a3,a4,rfl,hvr,hSr⟩)
  | (go_at_call 58;(with_reducible refine (cC _ ?_).mono ?_);(with_reducible assumption);rintro e wc ⟨c1,c2,rfl,hvc,hbc,hSc⟩;have hvr2:=Lib.hid (val_below hvr.out hbc.out))
  | (go_at_call 57;(with_reducible refine (cO _ _ a1 a2 a3 a4 c1 c2 ?_ ?_ ?_ ?_).mono ?_);(with_reducible (repeat (first|assumption|refine hA _ _ ?_)));(exact hvA _ _ _ _ _ _ hvr2.out);(exact hvA _ _ _ _ _ _ hvc.out);(exact heap_alloc_new _ _);rintro e wo ⟨e1,e2,e3,e4,y0,y1,y2,y3,y4,y5,rfl,hv,k0,k1,k2,k3,k4,k5,kf,hh,hSo⟩))
 obtain ⟨HP1,HMB,HV4⟩:=ret6 hh.out (hSo.2.2.2.2.2.2.2.2.2.2.2.2.below HB3.out (Nat.le_succ _) HB3.out.size) (Nat.le_succ _) hv.out (fun b hb=>by omega)
 have HVE:=Lib.hid (ValIn.later (R':=fun b=>w.heap.size≤b) (fun _ _ _=>rfl) (fun b hb=>by omega) _ _ _ HV4.out)
 clear hA hT cR cO hS0 hvA hAD hSW p0 p8 p9 p10 p11 p12 d0 d1 d2 d3 d4 d5 d6
 go_wp2_with fail
 (try simp only [Exit.inBlock,Exit.then])
 refine bodyPost_ret (v:=.agg #[.int .i64 5,.bool false,.int .i64 0,.string ⟨#[]⟩,.slice e1 2 e2,.slice e3 2 e4]) (results_cell_row rfl _ _ (w.heap.size+1) 36 #[.int .i64 5,.bool false,.int .i64 0,.string ⟨#[]⟩,.slice e1 2 e2,.slice e3 2 e4] (0,0) _ (by rfl) HP1.out Tryz.underlying36 rfl (by kernel_rfl)) rfl ?_
 exact ⟨HMB.out,.slice e1 2 e2,.slice e3 2 e4,rfl,HVE.out⟩
set_option maxHeartbeats 8000000 in
set_option maxRecDepth 100000 in
theorem params_hover (iso inn oso onn version pl pu:Int) (ion oon:Bool) (itx otx name text:List UInt8) (ilst olst:List Val) (iks oks:List (List UInt8)) (chs:List EditP) (ia1 ia2 oa1 oa2 ca:Option Addr) (ic1 ic2 oc1 oc2 cc im1 im2 om1 om2 cm:Nat) (_R:Nat→Prop) (w:World) :
  Calls Tryz.prog 32 #[.agg #[.int .i64 7,.int .i64 iso,.bool ion,.int .i64 inn,.string ⟨itx.toArray⟩,.slice ia1 im1 ic1,.slice ia2 im2 ic2,.string ⟨name.toArray⟩,.int .i64 version,.string ⟨text.toArray⟩,.slice ca cm cc,.int .i64 pl,.int .i64 pu,.int .i64 oso,.bool oon,.int .i64 onn,.string ⟨otx.toArray⟩,.slice oa1 om1 oc1,.slice oa2 om2 oc2]] w fun e w'=>Below w.heap.size w w'∧∃ lv kv,e=.returned (arg (toldV ⟨7,(.mk iso ion inn itx ilst iks),name,version,text,chs,⟨pl,pu⟩,(.mk oso oon onn otx olst oks)⟩) lv kv)∧ValIn w' (fun b=>w.heap.size≤b) (toldV ⟨7,(.mk iso ion inn itx ilst iks),name,version,text,chs,⟨pl,pu⟩,(.mk oso oon onn otx olst oks)⟩) lv kv:=by
 have ht:toldV ⟨7,(.mk iso ion inn itx ilst iks),name,version,text,chs,⟨pl,pu⟩,(.mk oso oon onn otx olst oks)⟩=recP [bDoc,bPos] [recP [bUri] [strP name],atPlace ⟨pl,pu⟩]:=rfl
 rw [ht]
 clear ht
 obtain ⟨h1,h2,h3,h4⟩:=two w (.cells #[.int .i64 7,.int .i64 iso,.bool ion,.int .i64 inn,.string ⟨itx.toArray⟩,.slice ia1 im1 ic1,.slice ia2 im2 ic2,.string ⟨name.toArray⟩,.int .i64 version,.string ⟨text.toArray⟩,.slice ca cm cc,.int .i64 pl,.int .i64 pu,.int .i64 oso,.bool oon,.int .i64 onn,.string ⟨otx.toArray⟩,.slice oa1 om1 oc1,.slice oa2 om2 oc2] 43) (.cells #[.int .i64 0,.bool false,.int .i64 0,.string ⟨#[]⟩,.slice none 0 0,.slice none 0 0] 36)
 obtain ⟨W2,hW2⟩:∃ W2,(w.alloc (.cells #[.int .i64 7,.int .i64 iso,.bool ion,.int .i64 inn,.string ⟨itx.toArray⟩,.slice ia1 im1 ic1,.slice ia2 im2 ic2,.string ⟨name.toArray⟩,.int .i64 version,.string ⟨text.toArray⟩,.slice ca cm cc,.int .i64 pl,.int .i64 pu,.int .i64 oso,.bool oon,.int .i64 onn,.string ⟨otx.toArray⟩,.slice oa1 om1 oc1,.slice oa2 om2 oc2] 43)).alloc (.cells #[.int .i64 0,.bool false,.int .i64 0,.string ⟨#[]⟩,.slice none 0 0,.slice none 0 0] 36)=W2:=⟨_,rfl⟩
 rw [hW2] at h1 h2 h3 h4
 have q0:W2.cell? ⟨w.heap.size,0,none⟩=some (.int .i64 7):=by unfold World.cell?;rw [h1];rfl
 have q1:W2.cell? ⟨w.heap.size,1,none⟩=some (.int .i64 iso):=by unfold World.cell?;rw [h1];rfl
 have q2:W2.cell? ⟨w.heap.size,2,none⟩=some (.bool ion):=by unfold World.cell?;rw [h1];rfl
 have q3:W2.cell? ⟨w.heap.size,3,none⟩=some (.int .i64 inn):=by unfold World.cell?;rw [h1];rfl
 have q4:W2.cell? ⟨w.heap.size,4,none⟩=some (.string ⟨itx.toArray⟩):=by unfold World.cell?;rw [h1];rfl
 have q5:W2.cell? ⟨w.heap.size,5,none⟩=some (.slice ia1 im1 ic1):=by unfold World.cell?;rw [h1];rfl
 have q6:W2.cell? ⟨w.heap.size,6,none⟩=some (.slice ia2 im2 ic2):=by unfold World.cell?;rw [h1];rfl
 have q7:W2.cell? ⟨w.heap.size,7,none⟩=some (.string ⟨name.toArray⟩):=by unfold World.cell?;rw [h1];rfl
 have q8:W2.cell? ⟨w.heap.size,8,none⟩=some (.int .i64 version):=by unfold World.cell?;rw [h1];rfl
 have q9:W2.cell? ⟨w.heap.size,9,none⟩=some (.string ⟨text.toArray⟩):=by unfold World.cell?;rw [h1];rfl
 have q10:W2.cell? ⟨w.heap.size,10,none⟩=some (.slice ca cm cc):=by unfold World.cell?;rw [h1];rfl
 have q11:W2.cell? ⟨w.heap.size,11,none⟩=some (.int .i64 pl):=by unfold World.cell?;rw [h1];rfl
 have q12:W2.cell? ⟨w.heap.size,12,none⟩=some (.int .i64 pu):=by unfold World.cell?;rw [h1];rfl
 have q13:W2.cell? ⟨w.heap.size,13,none⟩=some (.int .i64 oso):=by unfold World.cell?;rw [h1];rfl
 have q14:W2.cell? ⟨w.heap.size,14,none⟩=some (.bool oon):=by unfold World.cell?;rw [h1];rfl
 have q15:W2.cell? ⟨w.heap.size,15,none⟩=some (.int .i64 onn):=by unfold World.cell?;rw [h1];rfl
 have q16:W2.cell? ⟨w.heap.size,16,none⟩=some (.string ⟨otx.toArray⟩):=by unfold World.cell?;rw [h1];rfl
 have q17:W2.cell? ⟨w.heap.size,17,none⟩=some (.slice oa1 om1 oc1):=by unfold World.cell?;rw [h1];rfl
 have q18:W2.cell? ⟨w.heap.size,18,none⟩=some (.slice oa2 om2 oc2):=by unfold World.cell?;rw [h1];rfl
 have hz2:w.heap.size+2≤W2.heap.size:=by omega
 have hne:w.heap.size≠w.heap.size+1:=by omega
 have HB2:=Lib.hid h3
 have HO2:=Lib.hid (Open.start h2)
 go_enter Tryz.func32,Tryz.ntmps32
 clear h1 h2 h3 h4
 go_wp2_with fail
 refine (text_any ⟨name.toArray⟩ _).mono ?_
 rintro e w1 ⟨rfl,hb1⟩
 have hO1:=HO2.out.later hb1
 go_upto_region 4 with fail
 obtain ⟨d,hd⟩:∃ d,w1.heap.size=d:=⟨_,rfl⟩
 obtain ⟨W3,hW3⟩:∃ W3,w1.alloc (.cells #[.string ⟨#[117,114,105]⟩,.int .i64 3,.bool false,.int .i64 0,.string ⟨name.toArray⟩,.slice none 0 0,.slice none 0 0] 78)=W3:=⟨_,rfl⟩
 have hx3:W3.heap[d]?=some (.cells #[.string ⟨#[117,114,105]⟩,.int .i64 3,.bool false,.int .i64 0,.string ⟨name.toArray⟩,.slice none 0 0,.slice none 0 0] 78 (0,0)):=by rw [← hW3,← hd];exact heap_alloc_new _ _
 have hO3a:Open (w.heap.size+1) W2 W3:=by rw [← hW3];exact hO1.alloc _
 have hO3:=hO3a.now
 have hz3:W2.heap.size≤W3.heap.size:=hO3a.size
 have HB3:=Lib.hid (hO3a.below HB2.out (Nat.le_succ _) (by omega))
 have hdq:w.heap.size+1<d:=by have:=hO1.size;omega
 have hnd:d≠w.heap.size+1:=by omega
 have p0:=hO3a.cell q0 hne
 have p8:=hO3a.cell q8 hne
 have p9:=hO3a.cell q9 hne
 have p10:=hO3a.cell q10 hne
 have p11:=hO3a.cell q11 hne
 have p12:=hO3a.cell q12 hne
 have d0:W3.cell? ⟨d,0,none⟩=some (.string ⟨#[117,114,105]⟩):=by unfold World.cell?;rw [hx3];rfl
 have d1:W3.cell? ⟨d,1,none⟩=some (.int .i64 3):=by unfold World.cell?;rw [hx3];rfl
 have d2:W3.cell? ⟨d,2,none⟩=some (.bool false):=by unfold World.cell?;rw [hx3];rfl
 have d3:W3.cell? ⟨d,3,none⟩=some (.int .i64 0):=by unfold World.cell?;rw [hx3];rfl
 have d4:W3.cell? ⟨d,4,none⟩=some (.string ⟨name.toArray⟩):=by unfold World.cell?;rw [hx3];rfl
 have d5:W3.cell? ⟨d,5,none⟩=some (.slice none 0 0):=by unfold World.cell?;rw [hx3];rfl
 have d6:W3.cell? ⟨d,6,none⟩=some (.slice none 0 0):=by unfold World.cell?;rw [hx3];rfl
 clear q0 q1 q2 q3 q4 q5 q6 q7 q8 q9 q10 q11 q12 q13 q14 q15 q16 q17 q18 hW2 hb1 hO1
 have hc:∀ W,Open (w.heap.size+1) W3 W→(W.cell? ⟨w.heap.size,8,none⟩=some (.int .i64 version)∧W.cell? ⟨w.heap.size,9,none⟩=some (.string ⟨text.toArray⟩)∧W.cell? ⟨w.heap.size,10,none⟩=some (.slice ca cm cc)∧W.cell? ⟨w.heap.size,11,none⟩=some (.int .i64 pl)∧W.cell? ⟨w.heap.size,12,none⟩=some (.int .i64 pu)∧W.cell? ⟨d,0,none⟩=some (.string ⟨#[117,114,105]⟩)∧W.cell? ⟨d,1,none⟩=some (.int .i64 3)∧W.cell? ⟨d,2,none⟩=some (.bool false)∧W.cell? ⟨d,3,none⟩=some (.int .i64 0)∧W.cell? ⟨d,4,none⟩=some (.string ⟨name.toArray⟩)∧W.cell? ⟨d,5,none⟩=some (.slice none 0 0)∧W.cell? ⟨d,6,none⟩=some (.slice none 0 0)∧Open (w.heap.size+1) W3 W):=fun W hO=>⟨hO.cell p8 hne,hO.cell p9 hne,hO.cell p10 hne,hO.cell p11 hne,hO.cell p12 hne,hO.cell d0 hnd,hO.cell d1 hnd,hO.cell d2 hnd,hO.cell d3 hnd,hO.cell d4 hnd,hO.cell d5 hnd,hO.cell d6 hnd,hO⟩
 have cR:∀ W g,(W.cell? ⟨w.heap.size,8,none⟩=some (.int .i64 version)∧W.cell? ⟨w.heap.size,9,none⟩=some (.string ⟨text.toArray⟩)∧W.cell? ⟨w.heap.size,10,none⟩=some (.slice ca cm cc)∧W.cell? ⟨w.heap.size,11,none⟩=some (.int .i64 pl)∧W.cell? ⟨w.heap.size,12,none⟩=some (.int .i64 pu)∧W.cell? ⟨d,0,none⟩=some (.string ⟨#[117,114,105]⟩)∧W.cell? ⟨d,1,none⟩=some (.int .i64 3)∧W.cell? ⟨d,2,none⟩=some (.bool false)∧W.cell? ⟨d,3,none⟩=some (.int .i64 0)∧W.cell? ⟨d,4,none⟩=some (.string ⟨name.toArray⟩)∧W.cell? ⟨d,5,none⟩=some (.slice none 0 0)∧W.cell? ⟨d,6,none⟩=some (.slice none 0 0)∧Open (w.heap.size+1) W3 W)→W.heap[g]?=some (.cells #[.string ⟨#[117,114,105]⟩,.int .i64 3,.bool false,.int .i64 0,.string ⟨name.toArray⟩,.slice none 0 0,.slice none 0 0] 78 (0,0))→Calls Tryz.prog 50 #[.slice (some ⟨g,0,none⟩) 1 1] W fun e w'=>∃ a1 a2 a3 a4,e=.returned (.agg #[.int .i64 5,.bool false,.int .i64 0,.string ⟨#[]⟩,.slice a1 1 a2,.slice a3 1 a4])∧Hid (ValIn w' (fun b=>W3.heap.size≤b) (recP [bUri] [strP name]) (.slice a1 1 a2) (.slice a3 1 a4))∧(w'.cell? ⟨w.heap.size,8,none⟩=some (.int .i64 version)∧w'.cell? ⟨w.heap.size,9,none⟩=some (.string ⟨text.toArray⟩)∧w'.cell? ⟨w.heap.size,10,none⟩=some (.slice ca cm cc)∧w'.cell? ⟨w.heap.size,11,none⟩=some (.int .i64 pl)∧w'.cell? ⟨w.heap.size,12,none⟩=some (.int .i64 pu)∧w'.cell? ⟨d,0,none⟩=some (.string ⟨#[117,114,105]⟩)∧w'.cell? ⟨d,1,none⟩=some (.int .i64 3)∧w'.cell? ⟨d,2,none⟩=some (.bool false)∧w'.cell? ⟨d,3,none⟩=some (.int .i64 0)∧w'.cell? ⟨d,4,none⟩=some (.string ⟨name.toArray⟩)∧w'.cell? ⟨d,5,none⟩=some (.slice none 0 0)∧w'.cell? ⟨d,6,none⟩=some (.slice none 0 0)∧Open (w.heap.size+1) W3 w'):=fun W g hS hg=>by
  have hO:=hS.2.2.2.2.2.2.2.2.2.2.2.2
  have hP:PartsAt W (fun _=>False) [(bUri,strP name)] g 0:=⟨_,cells_of_block hg,.slice none 0 0,.slice none 0 0,[],rfl,leaf_in _ _ _ _ _ _,rfl⟩
  refine (made_rec (c:=1) (B:=W3.heap.size) hP (by simp) (fun b h=>h.elim) hO.size hO).mono ?_
  rintro e w' ⟨a1,a2,a3,a4,rfl,hv,hO'⟩
  exact ⟨a1,a2,a3,a4,rfl,hv,hc _ hO'.out⟩
 have cP:∀ W,(W.cell? ⟨w.heap.size,8,none⟩=some (.int .i64 version)∧W.cell? ⟨w.heap.size,9,none⟩=some (.string ⟨text.toArray⟩)∧W.cell? ⟨w.heap.size,10,none⟩=some (.slice ca cm cc)∧W.cell? ⟨w.heap.size,11,none⟩=some (.int .i64 pl)∧W.cell? ⟨w.heap.size,12,none⟩=some (.int .i64 pu)∧W.cell? ⟨d,0,none⟩=some (.string ⟨#[117,114,105]⟩)∧W.cell? ⟨d,1,none⟩=some (.int .i64 3)∧W.cell? ⟨d,2,none⟩=some (.bool false)∧W.cell? ⟨d,3,none⟩=some (.int .i64 0)∧W.cell? ⟨d,4,none⟩=some (.string ⟨name.toArray⟩)∧W.cell? ⟨d,5,none⟩=some (.slice none 0 0)∧W.cell? ⟨d,6,none⟩=some (.slice none 0 0)∧Open (w.heap.size+1) W3 W)→Calls Tryz.prog 59 #[.agg #[.int .i64 pl,.int .i64 pu]] W fun e w'=>∃ b1 b2 b3 b4,e=.returned (.agg #[.int .i64 5,.bool false,.int .i64 0,.string ⟨#[]⟩,.slice b1 2 b2,.slice b3 2 b4])∧Hid (ValIn w' (fun b=>W3.heap.size≤b) (atPlace ⟨pl,pu⟩) (.slice b1 2 b2) (.slice b3 2 b4))∧Hid (Below W.heap.size W w')∧(w'.cell? ⟨w.heap.size,8,none⟩=some (.int .i64 version)∧w'.cell? ⟨w.heap.size,9,none⟩=some (.string ⟨text.toArray⟩)∧w'.cell? ⟨w.heap.size,10,none⟩=some (.slice ca cm cc)∧w'.cell? ⟨w.heap.size,11,none⟩=some (.int .i64 pl)∧w'.cell? ⟨w.heap.size,12,none⟩=some (.int .i64 pu)∧w'.cell? ⟨d,0,none⟩=some (.string ⟨#[117,114,105]⟩)∧w'.cell? ⟨d,1,none⟩=some (.int .i64 3)∧w'.cell? ⟨d,2,none⟩=some (.bool false)∧w'.cell? ⟨d,3,none⟩=some (.int .i64 0)∧w'.cell? ⟨d,4,none⟩=some (.string ⟨name.toArray⟩)∧w'.cell? ⟨d,5,none⟩=some (.slice none 0 0)∧w'.cell? ⟨d,6,none⟩=some (.slice none 0 0)∧Open (w.heap.size+1) W3 w'):=fun W hS=>by
  have hO:=hS.2.2.2.2.2.2.2.2.2.2.2.2
  refine (place_any ⟨pl,pu⟩ W).mono ?_
  rintro e w' ⟨hb,lv,kv,rfl,hv⟩
  have hv':=hv
  obtain ⟨⟨b1,b2,rfl,_⟩,⟨b3,b4,rfl,_⟩⟩:=hv'
  exact ⟨b1,b2,b3,b4,rfl,Lib.hid (ValIn.later (fun _ _ _=>rfl) (fun b hb=>Nat.le_trans hO.size hb) _ _ _ hv),Lib.hid hb,hc _ (hO.later hb)⟩
 have cO:∀ W g a1 a2 a3 a4 b1 b2 b3 b4,(W.cell? ⟨w.heap.size,8,none⟩=some (.int .i64 version)∧W.cell? ⟨w.heap.size,9,none⟩=some (.string ⟨text.toArray⟩)∧W.cell? ⟨w.heap.size,10,none⟩=some (.slice ca cm cc)∧W.cell? ⟨w.heap.size,11,none⟩=some (.int .i64 pl)∧W.cell? ⟨w.heap.size,12,none⟩=some (.int .i64 pu)∧W.cell? ⟨d,0,none⟩=some (.string ⟨#[117,114,105]⟩)∧W.cell? ⟨d,1,none⟩=some (.int .i64 3)∧W.cell? ⟨d,2,none⟩=some (.bool false)∧W.cell? ⟨d,3,none⟩=some (.int .i64 0)∧W.cell? ⟨d,4,none⟩=some (.string ⟨name.toArray⟩)∧W.cell? ⟨d,5,none⟩=some (.slice none 0 0)∧W.cell? ⟨d,6,none⟩=some (.slice none 0 0)∧Open (w.heap.size+1) W3 W)→ValIn W (fun b=>W3.heap.size≤b) (recP [bUri] [strP name]) (.slice a1 1 a2) (.slice a3 1 a4)→ValIn W (fun b=>W3.heap.size≤b) (atPlace ⟨pl,pu⟩) (.slice b1 2 b2) (.slice b3 2 b4)→W.heap[g]?=some (.cells #[.string ⟨#[112,111,115,105,116,105,111,110]⟩,.int .i64 5,.bool false,.int .i64 0,.string ⟨#[]⟩,.slice b1 2 b2,.slice b3 2 b4] 78 (0,0))→Calls Tryz.prog 57 #[.agg #[.int .i64 5,.bool false,.int .i64 0,.string ⟨#[]⟩,.slice a1 1 a2,.slice a3 1 a4],.slice (some ⟨g,0,none⟩) 1 1] W fun e w'=>∃ e1 e2 e3 e4 y0 y1 y2 y3 y4 y5,e=.returned (.agg #[.int .i64 5,.bool false,.int .i64 0,.string ⟨#[]⟩,.slice e1 2 e2,.slice e3 2 e4])∧Hid (ValIn w' (fun b=>W3.heap.size≤b) (recP [bDoc,bPos] [recP [bUri] [strP name],atPlace ⟨pl,pu⟩]) (.slice e1 2 e2) (.slice e3 2 e4))∧w'.cell? ⟨w.heap.size+1,0,none⟩=some y0∧w'.cell? ⟨w.heap.size+1,1,none⟩=some y1∧w'.cell? ⟨w.heap.size+1,2,none⟩=some y2∧w'.cell? ⟨w.heap.size+1,3,none⟩=some y3∧w'.cell? ⟨w.heap.size+1,4,none⟩=some y4∧w'.cell? ⟨w.heap.size+1,5,none⟩=some y5∧(∀ i,w'.frozen? ⟨w.heap.size+1,i,none⟩=false)∧Hid (w'.heap[w.heap.size+1]?=some (.cells #[y0,y1,y2,y3,y4,y5] 36 (0,0)))∧(w'.cell? ⟨w.heap.size,8,none⟩=some (.int .i64 version)∧w'.cell? ⟨w.heap.size,9,none⟩=some (.string ⟨text.toArray⟩)∧w'.cell? ⟨w.heap.size,10,none⟩=some (.slice ca cm cc)∧w'.cell? ⟨w.heap.size,11,none⟩=some (.int .i64 pl)∧w'.cell? ⟨w.heap.size,12,none⟩=some (.int .i64 pu)∧w'.cell? ⟨d,0,none⟩=some (.string ⟨#[117,114,105]⟩)∧w'.cell? ⟨d,1,none⟩=some (.int .i64 3)∧w'.cell? ⟨d,2,none⟩=some (.bool false)∧w'.cell? ⟨d,3,none⟩=some (.int .i64 0)∧w'.cell? ⟨d,4,none⟩=some (.string ⟨name.toArray⟩)∧w'.cell? ⟨d,5,none⟩=some (.slice none 0 0)∧w'.cell? ⟨d,6,none⟩=some (.slice none 0 0)∧Open (w.heap.size+1) W3 w'):=fun W g a1 a2 a3 a4 b1 b2 b3 b4 hS hva hvb hg=>by
  have hO:=hS.2.2.2.2.2.2.2.2.2.2.2.2
  have hP:PartsAt W (fun b=>W3.heap.size≤b) [(bPos,atPlace ⟨pl,pu⟩)] g 0:=⟨_,cells_of_block hg,.slice b1 2 b2,.slice b3 2 b4,[],rfl,hvb,rfl⟩
  refine (ofdoc_some 5 false 0 [] _ _ a1 a3 a2 a4 [(bPos,atPlace ⟨pl,pu⟩)] g 0 1 (fun b=>W3.heap.size≤b) W hva hP (by simp) (by simp)).mono ?_
  rintro e w' ⟨hb,lv,kv,rfl,hv⟩
  have hv':=hv
  obtain ⟨⟨e1,e2,rfl,_⟩,⟨e3,e4,rfl,_⟩⟩:=hv'
  obtain ⟨y0,y1,y2,y3,y4,y5,k0,k1,k2,k3,k4,k5,kf,hh⟩:=(hO.later hb).cells
  exact ⟨e1,e2,e3,e4,y0,y1,y2,y3,y4,y5,rfl,Lib.hid (ValIn.later (fun _ _ _=>rfl) (fun b hb=>hb.elim id (fun h=>Nat.le_trans hO.size h)) _ _ _ hv),k0,k1,k2,k3,k4,k5,kf,hh,hc _ (hO.later hb)⟩
 have hA:∀ W ob,(W.cell? ⟨w.heap.size,8,none⟩=some (.int .i64 version)∧W.cell? ⟨w.heap.size,9,none⟩=some (.string ⟨text.toArray⟩)∧W.cell? ⟨w.heap.size,10,none⟩=some (.slice ca cm cc)∧W.cell? ⟨w.heap.size,11,none⟩=some (.int .i64 pl)∧W.cell? ⟨w.heap.size,12,none⟩=some (.int .i64 pu)∧W.cell? ⟨d,0,none⟩=some (.string ⟨#[117,114,105]⟩)∧W.cell? ⟨d,1,none⟩=some (.int .i64 3)∧W.cell? ⟨d,2,none⟩=some (.bool false)∧W.cell? ⟨d,3,none⟩=some (.int .i64 0)∧W.cell? ⟨d,4,none⟩=some (.string ⟨name.toArray⟩)∧W.cell? ⟨d,5,none⟩=some (.slice none 0 0)∧W.cell? ⟨d,6,none⟩=some (.slice none 0 0)∧Open (w.heap.size+1) W3 W)→((W.alloc ob).cell? ⟨w.heap.size,8,none⟩=some (.int .i64 version)∧(W.alloc ob).cell? ⟨w.heap.size,9,none⟩=some (.string ⟨text.toArray⟩)∧(W.alloc ob).cell? ⟨w.heap.size,10,none⟩=some (.slice ca cm cc)∧(W.alloc ob).cell? ⟨w.heap.size,11,none⟩=some (.int .i64 pl)∧(W.alloc ob).cell? ⟨w.heap.size,12,none⟩=some (.int .i64 pu)∧(W.alloc ob).cell? ⟨d,0,none⟩=some (.string ⟨#[117,114,105]⟩)∧(W.alloc ob).cell? ⟨d,1,none⟩=some (.int .i64 3)∧(W.alloc ob).cell? ⟨d,2,none⟩=some (.bool false)∧(W.alloc ob).cell? ⟨d,3,none⟩=some (.int .i64 0)∧(W.alloc ob).cell? ⟨d,4,none⟩=some (.string ⟨name.toArray⟩)∧(W.alloc ob).cell? ⟨d,5,none⟩=some (.slice none 0 0)∧(W.alloc ob).cell? ⟨d,6,none⟩=some (.slice none 0 0)∧Open (w.heap.size+1) W3 (W.alloc ob)):=fun W ob hS=>hc _ (hS.2.2.2.2.2.2.2.2.2.2.2.2.alloc ob)
 have hT:∀ W i v,(W.cell? ⟨w.heap.size,8,none⟩=some (.int .i64 version)∧W.cell? ⟨w.heap.size,9,none⟩=some (.string ⟨text.toArray⟩)∧W.cell? ⟨w.heap.size,10,none⟩=some (.slice ca cm cc)∧W.cell? ⟨w.heap.size,11,none⟩=some (.int .i64 pl)∧W.cell? ⟨w.heap.size,12,none⟩=some (.int .i64 pu)∧W.cell? ⟨d,0,none⟩=some (.string ⟨#[117,114,105]⟩)∧W.cell? ⟨d,1,none⟩=some (.int .i64 3)∧W.cell? ⟨d,2,none⟩=some (.bool false)∧W.cell? ⟨d,3,none⟩=some (.int .i64 0)∧W.cell? ⟨d,4,none⟩=some (.string ⟨name.toArray⟩)∧W.cell? ⟨d,5,none⟩=some (.slice none 0 0)∧W.cell? ⟨d,6,none⟩=some (.slice none 0 0)∧Open (w.heap.size+1) W3 W)→((W.setCell ⟨w.heap.size+1,i,none⟩ v).cell? ⟨w.heap.size,8,none⟩=some (.int .i64 version)∧(W.setCell ⟨w.heap.size+1,i,none⟩ v).cell? ⟨w.heap.size,9,none⟩=some (.string ⟨text.toArray⟩)∧(W.setCell ⟨w.heap.size+1,i,none⟩ v).cell? ⟨w.heap.size,10,none⟩=some (.slice ca cm cc)∧(W.setCell ⟨w.heap.size+1,i,none⟩ v).cell? ⟨w.heap.size,11,none⟩=some (.int .i64 pl)∧(W.setCell ⟨w.heap.size+1,i,none⟩ v).cell? ⟨w.heap.size,12,none⟩=some (.int .i64 pu)∧(W.setCell ⟨w.heap.size+1,i,none⟩ v).cell? ⟨d,0,none⟩=some (.string ⟨#[117,114,105]⟩)∧(W.setCell ⟨w.heap.size+1,i,none⟩ v).cell? ⟨d,1,none⟩=some (.int .i64 3)∧(W.setCell ⟨w.heap.size+1,i,none⟩ v).cell? ⟨d,2,none⟩=some (.bool false)∧(W.setCell ⟨w.heap.size+1,i,none⟩ v).cell? ⟨d,3,none⟩=some (.int .i64 0)∧(W.setCell ⟨w.heap.size+1,i,none⟩ v).cell? ⟨d,4,none⟩=some (.string ⟨name.toArray⟩)∧(W.setCell ⟨w.heap.size+1,i,none⟩ v).cell? ⟨d,5,none⟩=some (.slice none 0 0)∧(W.setCell ⟨w.heap.size+1,i,none⟩ v).cell? ⟨d,6,none⟩=some (.slice none 0 0)∧Open (w.heap.size+1) W3 (W.setCell ⟨w.heap.size+1,i,none⟩ v)):=fun W i v hS=>hc _ (hS.2.2.2.2.2.2.2.2.2.2.2.2.set i v)
 have hS0:(W3.drew.cell? ⟨w.heap.size,8,none⟩=some (.int .i64 version)∧W3.drew.cell? ⟨w.heap.size,9,none⟩=some (.string ⟨text.toArray⟩)∧W3.drew.cell? ⟨w.heap.size,10,none⟩=some (.slice ca cm cc)∧W3.drew.cell? ⟨w.heap.size,11,none⟩=some (.int .i64 pl)∧W3.drew.cell? ⟨w.heap.size,12,none⟩=some (.int .i64 pu)∧W3.drew.cell? ⟨d,0,none⟩=some (.string ⟨#[117,114,105]⟩)∧W3.drew.cell? ⟨d,1,none⟩=some (.int .i64 3)∧W3.drew.cell? ⟨d,2,none⟩=some (.bool false)∧W3.drew.cell? ⟨d,3,none⟩=some (.int .i64 0)∧W3.drew.cell? ⟨d,4,none⟩=some (.string ⟨name.toArray⟩)∧W3.drew.cell? ⟨d,5,none⟩=some (.slice none 0 0)∧W3.drew.cell? ⟨d,6,none⟩=some (.slice none 0 0)∧Open (w.heap.size+1) W3 (W3.drew)):=hc _ hO3.drew
 have hvA:∀ W ob R v lv kv,ValIn W R v lv kv→ValIn (W.alloc ob) R v lv kv:=fun W ob R v lv kv h=>val_below h ((Below.refl _ _).alloc (Nat.le_refl _) ob)
 have hAD:∀ ob,(((W3.alloc ob).drew).cell? ⟨w.heap.size,8,none⟩=some (.int .i64 version)∧((W3.alloc ob).drew).cell? ⟨w.heap.size,9,none⟩=some (.string ⟨text.toArray⟩)∧((W3.alloc ob).drew).cell? ⟨w.heap.size,10,none⟩=some (.slice ca cm cc)∧((W3.alloc ob).drew).cell? ⟨w.heap.size,11,none⟩=some (.int .i64 pl)∧((W3.alloc ob).drew).cell? ⟨w.heap.size,12,none⟩=some (.int .i64 pu)∧((W3.alloc ob).drew).cell? ⟨d,0,none⟩=some (.string ⟨#[117,114,105]⟩)∧((W3.alloc ob).drew).cell? ⟨d,1,none⟩=some (.int .i64 3)∧((W3.alloc ob).drew).cell? ⟨d,2,none⟩=some (.bool false)∧((W3.alloc ob).drew).cell? ⟨d,3,none⟩=some (.int .i64 0)∧((W3.alloc ob).drew).cell? ⟨d,4,none⟩=some (.string ⟨name.toArray⟩)∧((W3.alloc ob).drew).cell? ⟨d,5,none⟩=some (.slice none 0 0)∧((W3.alloc ob).drew).cell? ⟨d,6,none⟩=some (.slice none 0 0)∧Open (w.heap.size+1) W3 ((W3.alloc ob).drew)):=fun ob=>hc _ (hO3.alloc ob).drew
 have hSW:(W3.cell? ⟨w.heap.size,8,none⟩=some (.int .i64 version)∧W3.cell? ⟨w.heap.size,9,none⟩=some (.string ⟨text.toArray⟩)∧W3.cell? ⟨w.heap.size,10,none⟩=some (.slice ca cm cc)∧W3.cell? ⟨w.heap.size,11,none⟩=some (.int .i64 pl)∧W3.cell? ⟨w.heap.size,12,none⟩=some (.int .i64 pu)∧W3.cell? ⟨d,0,none⟩=some (.string ⟨#[117,114,105]⟩)∧W3.cell? ⟨d,1,none⟩=some (.int .i64 3)∧W3.cell? ⟨d,2,none⟩=some (.bool false)∧W3.cell? ⟨d,3,none⟩=some (.int .i64 0)∧W3.cell? ⟨d,4,none⟩=some (.string ⟨name.toArray⟩)∧W3.cell? ⟨d,5,none⟩=some (.slice none 0 0)∧W3.cell? ⟨d,6,none⟩=some (.slice none 0 0)∧Open (w.heap.size+1) W3 W3):=hc _ hO3
 rw [hd]
 rw [hW3]
 clear hc hW3 hd hx3 hO3 hO3a
 go_upto_region 10 with fail
 go_region_held3 (fun W=>(W.cell? ⟨w.heap.size,8,none⟩=some (.int .i64 version)∧W.cell? ⟨w.heap.size,9,none⟩=some (.string ⟨text.toArray⟩)∧W.cell? ⟨w.heap.size,10,none⟩=some (.slice ca cm cc)∧W.cell? ⟨w.heap.size,11,none⟩=some (.int .i64 pl)∧W.cell? ⟨w.heap.size,12,none⟩=some (.int .i64 pu)∧W.cell? ⟨d,0,none⟩=some (.string ⟨#[117,114,105]⟩)∧W.cell? ⟨d,1,none⟩=some (.int .i64 3)∧W.cell? ⟨d,2,none⟩=some (.bool false)∧W.cell? ⟨d,3,none⟩=some (.int .i64 0)∧W.cell? ⟨d,4,none⟩=some (.string ⟨name.toArray⟩)∧W.cell? ⟨d,5,none⟩=some (.slice none 0 0)∧W.cell? ⟨d,6,none⟩=some (.slice none 0 0)∧Open (w.heap.size+1) W3 W)) (with_reducible (repeat (first|assumption|exact hAD _|refine hA _ _ ?_|refine hT _ _ _ ?_))) (first
  | (go_at_call 50;(with_reducible refine (cR _ _ ?_ ?_).mono ?_);(with_reducible (repeat (first|assumption|exact hAD _|refine hA _ _ ?_)));(first|exact heap_alloc_new _ _|exact heap_alloc_new W3 _);rintro e wr ⟨a1,a2,a3,a4,rfl,hvr,hSr⟩)
  | (go_at_call 59;(with_reducible refine (cP _ ?_).mono ?_);(with_reducible assumption);rintro e wc ⟨b1,b2,b3,b4,rfl,hvc,hbc,hSc⟩;have hvr2:=Lib.hid (val_below hvr.out hbc.out))
  | (go_at_call 57;(with_reducible refine (cO _ _ a1 a2 a3 a4 b1 b2 b3 b4 ?_ ?_ ?_ ?_).mono ?_);(with_reducible (repeat (first|assumption|refine hA _ _ ?_)));(exact hvA _ _ _ _ _ _ hvr2.out);(exact hvA _ _ _ _ _ _ hvc.out);(exact heap_alloc_new _ _);rintro e wo ⟨e1,e2,e3,e4,y0,y1,y2,y3,y4,y5,rfl,hv,k0,k1,k2,k3,k4,k5,kf,hh,hSo⟩))
 obtain ⟨HP1,HMB,HV4⟩:=ret6 hh.out (hSo.2.2.2.2.2.2.2.2.2.2.2.2.below HB3.out (Nat.le_succ _) HB3.out.size) (Nat.le_succ _) hv.out (fun b hb=>by omega)
 have HVE:=Lib.hid (ValIn.later (R':=fun b=>w.heap.size≤b) (fun _ _ _=>rfl) (fun b hb=>by omega) _ _ _ HV4.out)
 clear hA hT cR cO hS0 hvA hAD hSW p0 p8 p9 p10 p11 p12 d0 d1 d2 d3 d4 d5 d6
 go_wp2_with fail
 (try simp only [Exit.inBlock,Exit.then])
 refine bodyPost_ret (v:=.agg #[.int .i64 5,.bool false,.int .i64 0,.string ⟨#[]⟩,.slice e1 2 e2,.slice e3 2 e4]) (results_cell_row rfl _ _ (w.heap.size+1) 36 #[.int .i64 5,.bool false,.int .i64 0,.string ⟨#[]⟩,.slice e1 2 e2,.slice e3 2 e4] (0,0) _ (by rfl) HP1.out Tryz.underlying36 rfl (by kernel_rfl)) rfl ?_
 exact ⟨HMB.out,.slice e1 2 e2,.slice e3 2 e4,rfl,HVE.out⟩
set_option maxHeartbeats 8000000 in
set_option maxRecDepth 100000 in
theorem params_other (k:Int) (h4:¬ k=4) (h5:¬ k=5) (h7:¬ k=7) (h9:¬ k=9) (iso inn oso onn version pl pu:Int) (ion oon:Bool) (itx otx name text:List UInt8) (ilst olst:List Val) (iks oks:List (List UInt8)) (chs:List EditP) (ia1 ia2 oa1 oa2 ca:Option Addr) (ic1 ic2 oc1 oc2 cc im1 im2 om1 om2 cm:Nat) (_R:Nat→Prop) (w:World) :
  Calls Tryz.prog 32 #[.agg #[.int .i64 k,.int .i64 iso,.bool ion,.int .i64 inn,.string ⟨itx.toArray⟩,.slice ia1 im1 ic1,.slice ia2 im2 ic2,.string ⟨name.toArray⟩,.int .i64 version,.string ⟨text.toArray⟩,.slice ca cm cc,.int .i64 pl,.int .i64 pu,.int .i64 oso,.bool oon,.int .i64 onn,.string ⟨otx.toArray⟩,.slice oa1 om1 oc1,.slice oa2 om2 oc2]] w fun e w'=>Below w.heap.size w w'∧∃ lv kv,e=.returned (arg (toldV ⟨k,(.mk iso ion inn itx ilst iks),name,version,text,chs,⟨pl,pu⟩,(.mk oso oon onn otx olst oks)⟩) lv kv)∧ValIn w' (fun b=>w.heap.size≤b) (toldV ⟨k,(.mk iso ion inn itx ilst iks),name,version,text,chs,⟨pl,pu⟩,(.mk oso oon onn otx olst oks)⟩) lv kv:=by
 have ht:toldV ⟨k,(.mk iso ion inn itx ilst iks),name,version,text,chs,⟨pl,pu⟩,(.mk oso oon onn otx olst oks)⟩=recP [bDoc] [recP [bUri] [strP name]]:=by
  unfold toldV docV
  simp [h4,h5,h7,h9]
 rw [ht]
 clear ht
 have n4:(k==4)=false:=beq_eq_false_iff_ne.2 h4
 have n5:(k==5)=false:=beq_eq_false_iff_ne.2 h5
 have n7:(k==7)=false:=beq_eq_false_iff_ne.2 h7
 have n9:(k==9)=false:=beq_eq_false_iff_ne.2 h9
 clear h4 h5 h7 h9
 obtain ⟨h1,h2,h3,h4⟩:=two w (.cells #[.int .i64 k,.int .i64 iso,.bool ion,.int .i64 inn,.string ⟨itx.toArray⟩,.slice ia1 im1 ic1,.slice ia2 im2 ic2,.string ⟨name.toArray⟩,.int .i64 version,.string ⟨text.toArray⟩,.slice ca cm cc,.int .i64 pl,.int .i64 pu,.int .i64 oso,.bool oon,.int .i64 onn,.string ⟨otx.toArray⟩,.slice oa1 om1 oc1,.slice oa2 om2 oc2] 43) (.cells #[.int .i64 0,.bool false,.int .i64 0,.string ⟨#[]⟩,.slice none 0 0,.slice none 0 0] 36)
 obtain ⟨W2,hW2⟩:∃ W2,(w.alloc (.cells #[.int .i64 k,.int .i64 iso,.bool ion,.int .i64 inn,.string ⟨itx.toArray⟩,.slice ia1 im1 ic1,.slice ia2 im2 ic2,.string ⟨name.toArray⟩,.int .i64 version,.string ⟨text.toArray⟩,.slice ca cm cc,.int .i64 pl,.int .i64 pu,.int .i64 oso,.bool oon,.int .i64 onn,.string ⟨otx.toArray⟩,.slice oa1 om1 oc1,.slice oa2 om2 oc2] 43)).alloc (.cells #[.int .i64 0,.bool false,.int .i64 0,.string ⟨#[]⟩,.slice none 0 0,.slice none 0 0] 36)=W2:=⟨_,rfl⟩
 rw [hW2] at h1 h2 h3 h4
 have q0:W2.cell? ⟨w.heap.size,0,none⟩=some (.int .i64 k):=by unfold World.cell?;rw [h1];rfl
 have q1:W2.cell? ⟨w.heap.size,1,none⟩=some (.int .i64 iso):=by unfold World.cell?;rw [h1];rfl
 have q2:W2.cell? ⟨w.heap.size,2,none⟩=some (.bool ion):=by unfold World.cell?;rw [h1];rfl
 have q3:W2.cell? ⟨w.heap.size,3,none⟩=some (.int .i64 inn):=by unfold World.cell?;rw [h1];rfl
 have q4:W2.cell? ⟨w.heap.size,4,none⟩=some (.string ⟨itx.toArray⟩):=by unfold World.cell?;rw [h1];rfl
 have q5:W2.cell? ⟨w.heap.size,5,none⟩=some (.slice ia1 im1 ic1):=by unfold World.cell?;rw [h1];rfl
 have q6:W2.cell? ⟨w.heap.size,6,none⟩=some (.slice ia2 im2 ic2):=by unfold World.cell?;rw [h1];rfl
 have q7:W2.cell? ⟨w.heap.size,7,none⟩=some (.string ⟨name.toArray⟩):=by unfold World.cell?;rw [h1];rfl
 have q8:W2.cell? ⟨w.heap.size,8,none⟩=some (.int .i64 version):=by unfold World.cell?;rw [h1];rfl
 have q9:W2.cell? ⟨w.heap.size,9,none⟩=some (.string ⟨text.toArray⟩):=by unfold World.cell?;rw [h1];rfl
 have q10:W2.cell? ⟨w.heap.size,10,none⟩=some (.slice ca cm cc):=by unfold World.cell?;rw [h1];rfl
 have q11:W2.cell? ⟨w.heap.size,11,none⟩=some (.int .i64 pl):=by unfold World.cell?;rw [h1];rfl
 have q12:W2.cell? ⟨w.heap.size,12,none⟩=some (.int .i64 pu):=by unfold World.cell?;rw [h1];rfl
 have q13:W2.cell? ⟨w.heap.size,13,none⟩=some (.int .i64 oso):=by unfold World.cell?;rw [h1];rfl
 have q14:W2.cell? ⟨w.heap.size,14,none⟩=some (.bool oon):=by unfold World.cell?;rw [h1];rfl
 have q15:W2.cell? ⟨w.heap.size,15,none⟩=some (.int .i64 onn):=by unfold World.cell?;rw [h1];rfl
 have q16:W2.cell? ⟨w.heap.size,16,none⟩=some (.string ⟨otx.toArray⟩):=by unfold World.cell?;rw [h1];rfl
 have q17:W2.cell? ⟨w.heap.size,17,none⟩=some (.slice oa1 om1 oc1):=by unfold World.cell?;rw [h1];rfl
 have q18:W2.cell? ⟨w.heap.size,18,none⟩=some (.slice oa2 om2 oc2):=by unfold World.cell?;rw [h1];rfl
 have hz2:w.heap.size+2≤W2.heap.size:=by omega
 have hne:w.heap.size≠w.heap.size+1:=by omega
 have HB2:=Lib.hid h3
 have HO2:=Lib.hid (Open.start h2)
 go_enter Tryz.func32,Tryz.ntmps32
 clear h1 h2 h3 h4
 go_wp2_with fail
 refine (text_any ⟨name.toArray⟩ _).mono ?_
 rintro e w1 ⟨rfl,hb1⟩
 have hO1:=HO2.out.later hb1
 go_upto_region 4 with fail
 obtain ⟨d,hd⟩:∃ d,w1.heap.size=d:=⟨_,rfl⟩
 obtain ⟨W3,hW3⟩:∃ W3,w1.alloc (.cells #[.string ⟨#[117,114,105]⟩,.int .i64 3,.bool false,.int .i64 0,.string ⟨name.toArray⟩,.slice none 0 0,.slice none 0 0] 78)=W3:=⟨_,rfl⟩
 have hx3:W3.heap[d]?=some (.cells #[.string ⟨#[117,114,105]⟩,.int .i64 3,.bool false,.int .i64 0,.string ⟨name.toArray⟩,.slice none 0 0,.slice none 0 0] 78 (0,0)):=by rw [← hW3,← hd];exact heap_alloc_new _ _
 have hO3a:Open (w.heap.size+1) W2 W3:=by rw [← hW3];exact hO1.alloc _
 have hO3:=hO3a.now
 have hz3:W2.heap.size≤W3.heap.size:=hO3a.size
 have HB3:=Lib.hid (hO3a.below HB2.out (Nat.le_succ _) (by omega))
 have hdq:w.heap.size+1<d:=by have:=hO1.size;omega
 have hnd:d≠w.heap.size+1:=by omega
 have p0:=hO3a.cell q0 hne
 have p8:=hO3a.cell q8 hne
 have p9:=hO3a.cell q9 hne
 have p10:=hO3a.cell q10 hne
 have p11:=hO3a.cell q11 hne
 have p12:=hO3a.cell q12 hne
 have d0:W3.cell? ⟨d,0,none⟩=some (.string ⟨#[117,114,105]⟩):=by unfold World.cell?;rw [hx3];rfl
 have d1:W3.cell? ⟨d,1,none⟩=some (.int .i64 3):=by unfold World.cell?;rw [hx3];rfl
 have d2:W3.cell? ⟨d,2,none⟩=some (.bool false):=by unfold World.cell?;rw [hx3];rfl
 have d3:W3.cell? ⟨d,3,none⟩=some (.int .i64 0):=by unfold World.cell?;rw [hx3];rfl
 have d4:W3.cell? ⟨d,4,none⟩=some (.string ⟨name.toArray⟩):=by unfold World.cell?;rw [hx3];rfl
 have d5:W3.cell? ⟨d,5,none⟩=some (.slice none 0 0):=by unfold World.cell?;rw [hx3];rfl
 have d6:W3.cell? ⟨d,6,none⟩=some (.slice none 0 0):=by unfold World.cell?;rw [hx3];rfl
 clear q0 q1 q2 q3 q4 q5 q6 q7 q8 q9 q10 q11 q12 q13 q14 q15 q16 q17 q18 hW2 hb1 hO1
 have hc:∀ W,Open (w.heap.size+1) W3 W→(W.cell? ⟨w.heap.size,8,none⟩=some (.int .i64 version)∧W.cell? ⟨w.heap.size,9,none⟩=some (.string ⟨text.toArray⟩)∧W.cell? ⟨w.heap.size,10,none⟩=some (.slice ca cm cc)∧W.cell? ⟨w.heap.size,11,none⟩=some (.int .i64 pl)∧W.cell? ⟨w.heap.size,12,none⟩=some (.int .i64 pu)∧W.cell? ⟨d,0,none⟩=some (.string ⟨#[117,114,105]⟩)∧W.cell? ⟨d,1,none⟩=some (.int .i64 3)∧W.cell? ⟨d,2,none⟩=some (.bool false)∧W.cell? ⟨d,3,none⟩=some (.int .i64 0)∧W.cell? ⟨d,4,none⟩=some (.string ⟨name.toArray⟩)∧W.cell? ⟨d,5,none⟩=some (.slice none 0 0)∧W.cell? ⟨d,6,none⟩=some (.slice none 0 0)∧Open (w.heap.size+1) W3 W):=fun W hO=>⟨hO.cell p8 hne,hO.cell p9 hne,hO.cell p10 hne,hO.cell p11 hne,hO.cell p12 hne,hO.cell d0 hnd,hO.cell d1 hnd,hO.cell d2 hnd,hO.cell d3 hnd,hO.cell d4 hnd,hO.cell d5 hnd,hO.cell d6 hnd,hO⟩
 have cR:∀ W g,(W.cell? ⟨w.heap.size,8,none⟩=some (.int .i64 version)∧W.cell? ⟨w.heap.size,9,none⟩=some (.string ⟨text.toArray⟩)∧W.cell? ⟨w.heap.size,10,none⟩=some (.slice ca cm cc)∧W.cell? ⟨w.heap.size,11,none⟩=some (.int .i64 pl)∧W.cell? ⟨w.heap.size,12,none⟩=some (.int .i64 pu)∧W.cell? ⟨d,0,none⟩=some (.string ⟨#[117,114,105]⟩)∧W.cell? ⟨d,1,none⟩=some (.int .i64 3)∧W.cell? ⟨d,2,none⟩=some (.bool false)∧W.cell? ⟨d,3,none⟩=some (.int .i64 0)∧W.cell? ⟨d,4,none⟩=some (.string ⟨name.toArray⟩)∧W.cell? ⟨d,5,none⟩=some (.slice none 0 0)∧W.cell? ⟨d,6,none⟩=some (.slice none 0 0)∧Open (w.heap.size+1) W3 W)→W.heap[g]?=some (.cells #[.string ⟨#[117,114,105]⟩,.int .i64 3,.bool false,.int .i64 0,.string ⟨name.toArray⟩,.slice none 0 0,.slice none 0 0] 78 (0,0))→Calls Tryz.prog 50 #[.slice (some ⟨g,0,none⟩) 1 1] W fun e w'=>∃ a1 a2 a3 a4,e=.returned (.agg #[.int .i64 5,.bool false,.int .i64 0,.string ⟨#[]⟩,.slice a1 1 a2,.slice a3 1 a4])∧Hid (ValIn w' (fun b=>W3.heap.size≤b) (recP [bUri] [strP name]) (.slice a1 1 a2) (.slice a3 1 a4))∧(w'.cell? ⟨w.heap.size,8,none⟩=some (.int .i64 version)∧w'.cell? ⟨w.heap.size,9,none⟩=some (.string ⟨text.toArray⟩)∧w'.cell? ⟨w.heap.size,10,none⟩=some (.slice ca cm cc)∧w'.cell? ⟨w.heap.size,11,none⟩=some (.int .i64 pl)∧w'.cell? ⟨w.heap.size,12,none⟩=some (.int .i64 pu)∧w'.cell? ⟨d,0,none⟩=some (.string ⟨#[117,114,105]⟩)∧w'.cell? ⟨d,1,none⟩=some (.int .i64 3)∧w'.cell? ⟨d,2,none⟩=some (.bool false)∧w'.cell? ⟨d,3,none⟩=some (.int .i64 0)∧w'.cell? ⟨d,4,none⟩=some (.string ⟨name.toArray⟩)∧w'.cell? ⟨d,5,none⟩=some (.slice none 0 0)∧w'.cell? ⟨d,6,none⟩=some (.slice none 0 0)∧Open (w.heap.size+1) W3 w'):=fun W g hS hg=>by
  have hO:=hS.2.2.2.2.2.2.2.2.2.2.2.2
  have hP:PartsAt W (fun _=>False) [(bUri,strP name)] g 0:=⟨_,cells_of_block hg,.slice none 0 0,.slice none 0 0,[],rfl,leaf_in _ _ _ _ _ _,rfl⟩
  refine (made_rec (c:=1) (B:=W3.heap.size) hP (by simp) (fun b h=>h.elim) hO.size hO).mono ?_
  rintro e w' ⟨a1,a2,a3,a4,rfl,hv,hO'⟩
  exact ⟨a1,a2,a3,a4,rfl,hv,hc _ hO'.out⟩
 have cO:∀ W a1 a2 a3 a4,(W.cell? ⟨w.heap.size,8,none⟩=some (.int .i64 version)∧W.cell? ⟨w.heap.size,9,none⟩=some (.string ⟨text.toArray⟩)∧W.cell? ⟨w.heap.size,10,none⟩=some (.slice ca cm cc)∧W.cell? ⟨w.heap.size,11,none⟩=some (.int .i64 pl)∧W.cell? ⟨w.heap.size,12,none⟩=some (.int .i64 pu)∧W.cell? ⟨d,0,none⟩=some (.string ⟨#[117,114,105]⟩)∧W.cell? ⟨d,1,none⟩=some (.int .i64 3)∧W.cell? ⟨d,2,none⟩=some (.bool false)∧W.cell? ⟨d,3,none⟩=some (.int .i64 0)∧W.cell? ⟨d,4,none⟩=some (.string ⟨name.toArray⟩)∧W.cell? ⟨d,5,none⟩=some (.slice none 0 0)∧W.cell? ⟨d,6,none⟩=some (.slice none 0 0)∧Open (w.heap.size+1) W3 W)→ValIn W (fun b=>W3.heap.size≤b) (recP [bUri] [strP name]) (.slice a1 1 a2) (.slice a3 1 a4)→Calls Tryz.prog 57 #[.agg #[.int .i64 5,.bool false,.int .i64 0,.string ⟨#[]⟩,.slice a1 1 a2,.slice a3 1 a4],.slice none 0 0] W fun e w'=>∃ e1 e2 e3 e4 y0 y1 y2 y3 y4 y5,e=.returned (.agg #[.int .i64 5,.bool false,.int .i64 0,.string ⟨#[]⟩,.slice e1 1 e2,.slice e3 1 e4])∧Hid (ValIn w' (fun b=>W3.heap.size≤b) (recP [bDoc] [recP [bUri] [strP name]]) (.slice e1 1 e2) (.slice e3 1 e4))∧w'.cell? ⟨w.heap.size+1,0,none⟩=some y0∧w'.cell? ⟨w.heap.size+1,1,none⟩=some y1∧w'.cell? ⟨w.heap.size+1,2,none⟩=some y2∧w'.cell? ⟨w.heap.size+1,3,none⟩=some y3∧w'.cell? ⟨w.heap.size+1,4,none⟩=some y4∧w'.cell? ⟨w.heap.size+1,5,none⟩=some y5∧(∀ i,w'.frozen? ⟨w.heap.size+1,i,none⟩=false)∧Hid (w'.heap[w.heap.size+1]?=some (.cells #[y0,y1,y2,y3,y4,y5] 36 (0,0)))∧(w'.cell? ⟨w.heap.size,8,none⟩=some (.int .i64 version)∧w'.cell? ⟨w.heap.size,9,none⟩=some (.string ⟨text.toArray⟩)∧w'.cell? ⟨w.heap.size,10,none⟩=some (.slice ca cm cc)∧w'.cell? ⟨w.heap.size,11,none⟩=some (.int .i64 pl)∧w'.cell? ⟨w.heap.size,12,none⟩=some (.int .i64 pu)∧w'.cell? ⟨d,0,none⟩=some (.string ⟨#[117,114,105]⟩)∧w'.cell? ⟨d,1,none⟩=some (.int .i64 3)∧w'.cell? ⟨d,2,none⟩=some (.bool false)∧w'.cell? ⟨d,3,none⟩=some (.int .i64 0)∧w'.cell? ⟨d,4,none⟩=some (.string ⟨name.toArray⟩)∧w'.cell? ⟨d,5,none⟩=some (.slice none 0 0)∧w'.cell? ⟨d,6,none⟩=some (.slice none 0 0)∧Open (w.heap.size+1) W3 w'):=fun W a1 a2 a3 a4 hS hva=>by
  have hO:=hS.2.2.2.2.2.2.2.2.2.2.2.2
  refine (ofdoc_none 5 false 0 [] _ _ a1 a3 a2 a4 (fun b=>W3.heap.size≤b) W hva).mono ?_
  rintro e w' ⟨hb,lv,kv,rfl,hv⟩
  have hv':=hv
  obtain ⟨⟨e1,e2,rfl,_⟩,⟨e3,e4,rfl,_⟩⟩:=hv'
  obtain ⟨y0,y1,y2,y3,y4,y5,k0,k1,k2,k3,k4,k5,kf,hh⟩:=(hO.later hb).cells
  exact ⟨e1,e2,e3,e4,y0,y1,y2,y3,y4,y5,rfl,Lib.hid (ValIn.later (fun _ _ _=>rfl) (fun b hb=>hb.elim id (fun h=>Nat.le_trans hO.size h)) _ _ _ hv),k0,k1,k2,k3,k4,k5,kf,hh,hc _ (hO.later hb)⟩
 have hA:∀ W ob,(W.cell? ⟨w.heap.size,8,none⟩=some (.int .i64 version)∧W.cell? ⟨w.heap.size,9,none⟩=some (.string ⟨text.toArray⟩)∧W.cell? ⟨w.heap.size,10,none⟩=some (.slice ca cm cc)∧W.cell? ⟨w.heap.size,11,none⟩=some (.int .i64 pl)∧W.cell? ⟨w.heap.size,12,none⟩=some (.int .i64 pu)∧W.cell? ⟨d,0,none⟩=some (.string ⟨#[117,114,105]⟩)∧W.cell? ⟨d,1,none⟩=some (.int .i64 3)∧W.cell? ⟨d,2,none⟩=some (.bool false)∧W.cell? ⟨d,3,none⟩=some (.int .i64 0)∧W.cell? ⟨d,4,none⟩=some (.string ⟨name.toArray⟩)∧W.cell? ⟨d,5,none⟩=some (.slice none 0 0)∧W.cell? ⟨d,6,none⟩=some (.slice none 0 0)∧Open (w.heap.size+1) W3 W)→((W.alloc ob).cell? ⟨w.heap.size,8,none⟩=some (.int .i64 version)∧(W.alloc ob).cell? ⟨w.heap.size,9,none⟩=some (.string ⟨text.toArray⟩)∧(W.alloc ob).cell? ⟨w.heap.size,10,none⟩=some (.slice ca cm cc)∧(W.alloc ob).cell? ⟨w.heap.size,11,none⟩=some (.int .i64 pl)∧(W.alloc ob).cell? ⟨w.heap.size,12,none⟩=some (.int .i64 pu)∧(W.alloc ob).cell? ⟨d,0,none⟩=some (.string ⟨#[117,114,105]⟩)∧(W.alloc ob).cell? ⟨d,1,none⟩=some (.int .i64 3)∧(W.alloc ob).cell? ⟨d,2,none⟩=some (.bool false)∧(W.alloc ob).cell? ⟨d,3,none⟩=some (.int .i64 0)∧(W.alloc ob).cell? ⟨d,4,none⟩=some (.string ⟨name.toArray⟩)∧(W.alloc ob).cell? ⟨d,5,none⟩=some (.slice none 0 0)∧(W.alloc ob).cell? ⟨d,6,none⟩=some (.slice none 0 0)∧Open (w.heap.size+1) W3 (W.alloc ob)):=fun W ob hS=>hc _ (hS.2.2.2.2.2.2.2.2.2.2.2.2.alloc ob)
 have hT:∀ W i v,(W.cell? ⟨w.heap.size,8,none⟩=some (.int .i64 version)∧W.cell? ⟨w.heap.size,9,none⟩=some (.string ⟨text.toArray⟩)∧W.cell? ⟨w.heap.size,10,none⟩=some (.slice ca cm cc)∧W.cell? ⟨w.heap.size,11,none⟩=some (.int .i64 pl)∧W.cell? ⟨w.heap.size,12,none⟩=some (.int .i64 pu)∧W.cell? ⟨d,0,none⟩=some (.string ⟨#[117,114,105]⟩)∧W.cell? ⟨d,1,none⟩=some (.int .i64 3)∧W.cell? ⟨d,2,none⟩=some (.bool false)∧W.cell? ⟨d,3,none⟩=some (.int .i64 0)∧W.cell? ⟨d,4,none⟩=some (.string ⟨name.toArray⟩)∧W.cell? ⟨d,5,none⟩=some (.slice none 0 0)∧W.cell? ⟨d,6,none⟩=some (.slice none 0 0)∧Open (w.heap.size+1) W3 W)→((W.setCell ⟨w.heap.size+1,i,none⟩ v).cell? ⟨w.heap.size,8,none⟩=some (.int .i64 version)∧(W.setCell ⟨w.heap.size+1,i,none⟩ v).cell? ⟨w.heap.size,9,none⟩=some (.string ⟨text.toArray⟩)∧(W.setCell ⟨w.heap.size+1,i,none⟩ v).cell? ⟨w.heap.size,10,none⟩=some (.slice ca cm cc)∧(W.setCell ⟨w.heap.size+1,i,none⟩ v).cell? ⟨w.heap.size,11,none⟩=some (.int .i64 pl)∧(W.setCell ⟨w.heap.size+1,i,none⟩ v).cell? ⟨w.heap.size,12,none⟩=some (.int .i64 pu)∧(W.setCell ⟨w.heap.size+1,i,none⟩ v).cell? ⟨d,0,none⟩=some (.string ⟨#[117,114,105]⟩)∧(W.setCell ⟨w.heap.size+1,i,none⟩ v).cell? ⟨d,1,none⟩=some (.int .i64 3)∧(W.setCell ⟨w.heap.size+1,i,none⟩ v).cell? ⟨d,2,none⟩=some (.bool false)∧(W.setCell ⟨w.heap.size+1,i,none⟩ v).cell? ⟨d,3,none⟩=some (.int .i64 0)∧(W.setCell ⟨w.heap.size+1,i,none⟩ v).cell? ⟨d,4,none⟩=some (.string ⟨name.toArray⟩)∧(W.setCell ⟨w.heap.size+1,i,none⟩ v).cell? ⟨d,5,none⟩=some (.slice none 0 0)∧(W.setCell ⟨w.heap.size+1,i,none⟩ v).cell? ⟨d,6,none⟩=some (.slice none 0 0)∧Open (w.heap.size+1) W3 (W.setCell ⟨w.heap.size+1,i,none⟩ v)):=fun W i v hS=>hc _ (hS.2.2.2.2.2.2.2.2.2.2.2.2.set i v)
 have hS0:(W3.drew.cell? ⟨w.heap.size,8,none⟩=some (.int .i64 version)∧W3.drew.cell? ⟨w.heap.size,9,none⟩=some (.string ⟨text.toArray⟩)∧W3.drew.cell? ⟨w.heap.size,10,none⟩=some (.slice ca cm cc)∧W3.drew.cell? ⟨w.heap.size,11,none⟩=some (.int .i64 pl)∧W3.drew.cell? ⟨w.heap.size,12,none⟩=some (.int .i64 pu)∧W3.drew.cell? ⟨d,0,none⟩=some (.string ⟨#[117,114,105]⟩)∧W3.drew.cell? ⟨d,1,none⟩=some (.int .i64 3)∧W3.drew.cell? ⟨d,2,none⟩=some (.bool false)∧W3.drew.cell? ⟨d,3,none⟩=some (.int .i64 0)∧W3.drew.cell? ⟨d,4,none⟩=some (.string ⟨name.toArray⟩)∧W3.drew.cell? ⟨d,5,none⟩=some (.slice none 0 0)∧W3.drew.cell? ⟨d,6,none⟩=some (.slice none 0 0)∧Open (w.heap.size+1) W3 (W3.drew)):=hc _ hO3.drew
 have hvA:∀ W ob R v lv kv,ValIn W R v lv kv→ValIn (W.alloc ob) R v lv kv:=fun W ob R v lv kv h=>val_below h ((Below.refl _ _).alloc (Nat.le_refl _) ob)
 have hAD:∀ ob,(((W3.alloc ob).drew).cell? ⟨w.heap.size,8,none⟩=some (.int .i64 version)∧((W3.alloc ob).drew).cell? ⟨w.heap.size,9,none⟩=some (.string ⟨text.toArray⟩)∧((W3.alloc ob).drew).cell? ⟨w.heap.size,10,none⟩=some (.slice ca cm cc)∧((W3.alloc ob).drew).cell? ⟨w.heap.size,11,none⟩=some (.int .i64 pl)∧((W3.alloc ob).drew).cell? ⟨w.heap.size,12,none⟩=some (.int .i64 pu)∧((W3.alloc ob).drew).cell? ⟨d,0,none⟩=some (.string ⟨#[117,114,105]⟩)∧((W3.alloc ob).drew).cell? ⟨d,1,none⟩=some (.int .i64 3)∧((W3.alloc ob).drew).cell? ⟨d,2,none⟩=some (.bool false)∧((W3.alloc ob).drew).cell? ⟨d,3,none⟩=some (.int .i64 0)∧((W3.alloc ob).drew).cell? ⟨d,4,none⟩=some (.string ⟨name.toArray⟩)∧((W3.alloc ob).drew).cell? ⟨d,5,none⟩=some (.slice none 0 0)∧((W3.alloc ob).drew).cell? ⟨d,6,none⟩=some (.slice none 0 0)∧Open (w.heap.size+1) W3 ((W3.alloc ob).drew)):=fun ob=>hc _ (hO3.alloc ob).drew
 have hSW:(W3.cell? ⟨w.heap.size,8,none⟩=some (.int .i64 version)∧W3.cell? ⟨w.heap.size,9,none⟩=some (.string ⟨text.toArray⟩)∧W3.cell? ⟨w.heap.size,10,none⟩=some (.slice ca cm cc)∧W3.cell? ⟨w.heap.size,11,none⟩=some (.int .i64 pl)∧W3.cell? ⟨w.heap.size,12,none⟩=some (.int .i64 pu)∧W3.cell? ⟨d,0,none⟩=some (.string ⟨#[117,114,105]⟩)∧W3.cell? ⟨d,1,none⟩=some (.int .i64 3)∧W3.cell? ⟨d,2,none⟩=some (.bool false)∧W3.cell? ⟨d,3,none⟩=some (.int .i64 0)∧W3.cell? ⟨d,4,none⟩=some (.string ⟨name.toArray⟩)∧W3.cell? ⟨d,5,none⟩=some (.slice none 0 0)∧W3.cell? ⟨d,6,none⟩=some (.slice none 0 0)∧Open (w.heap.size+1) W3 W3):=hc _ hO3
 rw [hd]
 rw [hW3]
 clear hc hW3 hd hx3 hO3 hO3a
 have hS3:=hA W3 (.cells #[.string ⟨#[117,114,105]⟩,.int .i64 3,.bool false,.int .i64 0,.string ⟨name.toArray⟩,.slice none 0 0,.slice none 0 0] 78) hSW
 have cR3:=cR (W3.alloc (.cells #[.string ⟨#[117,114,105]⟩,.int .i64 3,.bool false,.int .i64 0,.string ⟨name.toArray⟩,.slice none 0 0,.slice none 0 0] 78)) W3.heap.size hS3 (heap_alloc_new _ _)
 have CR:=Lib.hid cR3
 have CO:=Lib.hid cO
 clear cR cR3 cO hA hT hS0 hS3 hvA hAD hSW
 go_wp2_with fail
 refine CR.out.mono ?_
 rintro e wr ⟨a1,a2,a3,a4,rfl,hvr,hSr⟩
 have CO2:=Lib.hid (CO.out wr a1 a2 a3 a4 hSr hvr.out)
 clear hSr CR CO
 go_wp2_with fail
 refine CO2.out.mono ?_
 rintro e wo ⟨e1,e2,e3,e4,y0,y1,y2,y3,y4,y5,rfl,hv,k0,k1,k2,k3,k4,k5,kf,hh,hSo⟩
 obtain ⟨HP1,HMB,HV4⟩:=ret6 hh.out (hSo.2.2.2.2.2.2.2.2.2.2.2.2.below HB3.out (Nat.le_succ _) HB3.out.size) (Nat.le_succ _) hv.out (fun b hb=>by omega)
 have HVE:=Lib.hid (ValIn.later (R':=fun b=>w.heap.size≤b) (fun _ _ _=>rfl) (fun b hb=>by omega) _ _ _ HV4.out)
 go_wp2_with fail
 (try simp only [Exit.inBlock,Exit.then])
 refine bodyPost_ret (v:=.agg #[.int .i64 5,.bool false,.int .i64 0,.string ⟨#[]⟩,.slice e1 1 e2,.slice e3 1 e4]) (results_cell_row rfl _ _ (w.heap.size+1) 36 #[.int .i64 5,.bool false,.int .i64 0,.string ⟨#[]⟩,.slice e1 1 e2,.slice e3 1 e4] (0,0) _ (by rfl) HP1.out Tryz.underlying36 rfl (by kernel_rfl)) rfl ?_
 exact ⟨HMB.out,.slice e1 1 e2,.slice e3 1 e4,rfl,HVE.out⟩
def callC (c:CallP) (il ik ch ol ok:Value):List Value:=.int .i64 c.kind :: (six' c.id il ik++[strCell c.name,.int .i64 c.version,strCell c.text,ch,.int .i64 c.place.line,.int .i64 c.place.unit]++six' c.other ol ok)
def argC (c:CallP) (il ik ch ol ok:Value):Value:=.agg (callC c il ik ch ol ok).toArray
structure CallIn (W:World) (R:Nat→Prop) (c:CallP) (il ik ch ol ok:Value):Prop where
 id:ValIn W R c.id il ik
 edits:EditsIn W R c.changes ch
 other:ValIn W R c.other ol ok
theorem CallIn.later {W W':World} {R R':Nat→Prop} {c:CallP} {il ik ch ol ok:Value} (h:CallIn W R c il ik ch ol ok) (hs:Same R W W') (hR:∀ g,R g→R' g):CallIn W' R' c il ik ch ol ok :=
 ⟨ValIn.later hs hR _ _ _ h.id,h.edits.later hs hR,ValIn.later hs hR _ _ _ h.other⟩
theorem CallIn.bound {W:World} {R:Nat→Prop} {c:CallP} {il ik ch ol ok:Value} (h:CallIn W R c il ik ch ol ok):CallIn W (fun g=>R g∧g<W.heap.size) c il ik ch ol ok :=
 ⟨ValIn.bound _ _ _ h.id,h.edits.bound,ValIn.bound _ _ _ h.other⟩
theorem wtE_length:∀ (l:List EditP),l.length≤wtE l
 | []=>Nat.le_refl _
 | e :: r=>by have:=wtE_length r;simp only [List.length_cons,wtE];omega
theorem params_any (c:CallP) (il ik ch ol ok:Value) (R:Nat→Prop) (w:World) (h:CallIn w R c il ik ch ol ok) (hs:SmallC c) :
  Calls Tryz.prog 32 #[argC c il ik ch ol ok] w fun e w'=>Below w.heap.size w w'∧∃ lv kv,e=.returned (arg (toldV c) lv kv)∧ValIn w' (fun b=>w.heap.size≤b) (toldV c) lv kv:=by
 obtain ⟨k,⟨iso,ion,inn,itx,ilst,iks⟩,name,version,text,chs,⟨pl,pu⟩,⟨oso,oon,onn,otx,olst,oks⟩⟩:=c
 obtain ⟨hi,he,ho⟩:=h
 have hi':=hi
 have he':=he
 have ho':=ho
 obtain ⟨⟨ia1,ic1,rfl,_⟩,⟨ia2,ic2,rfl,_⟩⟩:=hi'
 obtain ⟨⟨oa1,oc1,rfl,_⟩,⟨oa2,oc2,rfl,_⟩⟩:=ho'
 obtain ⟨ca,cc,rfl,_⟩:=he'
 have hcl:=Nat.le_trans (wtE_length chs) hs.edits
 by_cases h9:k=9
 ·subst h9;exact params_cancel iso inn oso onn version pl pu ion oon itx otx name text ilst olst iks oks chs ia1 ia2 oa1 oa2 ca ic1 ic2 oc1 oc2 cc ilst.length iks.length olst.length oks.length chs.length R w rfl rfl ho (Nat.le_trans hs.other (by omega))
 by_cases h4:k=4
 ·subst h4;exact params_open iso inn oso onn version pl pu ion oon itx otx name text ilst olst iks oks chs ia1 ia2 oa1 oa2 ca ic1 ic2 oc1 oc2 cc ilst.length iks.length olst.length oks.length chs.length R w
 by_cases h5:k=5
 ·subst h5;exact params_change iso inn oso onn version pl pu ion oon itx otx name text ilst olst iks oks chs ia1 ia2 oa1 oa2 ca ic1 ic2 oc1 oc2 cc ilst.length iks.length olst.length oks.length chs.length R w rfl he (by omega)
 by_cases h7:k=7
 ·subst h7;exact params_hover iso inn oso onn version pl pu ion oon itx otx name text ilst olst iks oks chs ia1 ia2 oa1 oa2 ca ic1 ic2 oc1 oc2 cc ilst.length iks.length olst.length oks.length chs.length R w
 exact params_other k h4 h5 h7 h9 iso inn oso onn version pl pu ion oon itx otx name text ilst olst iks oks chs ia1 ia2 oa1 oa2 ca ic1 ic2 oc1 oc2 cc ilst.length iks.length olst.length oks.length chs.length R w
end Go.Proofs.YtpbnhnilfpoljaaGreatDoor.M
