/- What the claim needs of the texts MMake6. -/
import Derived.Test.YtpbnhnilfpoljaaGreatDoorRB16
namespace Go.Proofs.YtpbnhnilfpoljaaGreatDoor.M
open Go.RowKit
open Go.Lib Go.Proofs.YtpbnhnilfpoljaaGreatDoor.V
theorem Open.now {q:Nat} {W0 W:World} (h:Open q W0 W):Open q W W:=by
 obtain ⟨_,_,y0,y1,y2,y3,y4,y5,h4⟩:=h
 exact Open.start h4
theorem Open.val {q:Nat} {W0 W:World} {R:Nat→Prop} {v:Val} {lv kv:Value} (h:Open q W0 W) (hv:ValIn W0 R v lv kv) (hR:∀ b,R b→b≠q):ValIn W R v lv kv :=
 ValIn.later (fun b hb hlt=>h.1.block b hlt (hR b hb)) (fun _ h=>h) _ _ _ hv
theorem Open.other {q:Nat} {W0 W:World} (h:Open q W0 W) (d i:Nat) (v:Value) (hd:W0.heap.size≤d):Open q W0 (W.setCell ⟨d,i,none⟩ v):=by
 have hl:=h.2.1
 obtain ⟨h1,h3,y0,y1,y2,y3,y4,y5,h4⟩:=h
 exact ⟨h1.setNew ⟨d,i,none⟩ hd v,h3,y0,y1,y2,y3,y4,y5,(Below.heap_setCell _ _ _ _ (by show q≠d;omega)).trans h4⟩
set_option maxHeartbeats 16000000 in
set_option maxRecDepth 100000 in
theorem change_range (t:List UInt8) (fl fu tl tu:Int) (w:World) :
  Calls Tryz.prog 91 #[.agg #[.int .i64 fl,.int .i64 fu,.int .i64 tl,.int .i64 tu,.string ⟨t.toArray⟩,.bool false]] w fun e w'=>Below w.heap.size w w'∧∃ lv kv,e=.returned (arg (editV ⟨⟨fl,fu⟩,⟨tl,tu⟩,t,false⟩) lv kv)∧ValIn w' (fun b=>w.heap.size≤b) (editV ⟨⟨fl,fu⟩,⟨tl,tu⟩,t,false⟩) lv kv:=by
 have he:editV ⟨⟨fl,fu⟩,⟨tl,tu⟩,t,false⟩=recP [bText,bRange] [strP t,recP [bStart,bEnd] [atPlace ⟨fl,fu⟩,atPlace ⟨tl,tu⟩]]:=rfl
 rw [he]
 clear he
 obtain ⟨h1,h2,h3,h4⟩:=two w (.cells #[.int .i64 fl,.int .i64 fu,.int .i64 tl,.int .i64 tu,.string ⟨t.toArray⟩,.bool false] 84) (.cells #[.int .i64 0,.bool false,.int .i64 0,.string ⟨#[]⟩,.slice none 0 0,.slice none 0 0] 36)
 obtain ⟨W2,hW2⟩:∃ W2,(w.alloc (.cells #[.int .i64 fl,.int .i64 fu,.int .i64 tl,.int .i64 tu,.string ⟨t.toArray⟩,.bool false] 84)).alloc (.cells #[.int .i64 0,.bool false,.int .i64 0,.string ⟨#[]⟩,.slice none 0 0,.slice none 0 0] 36)=W2:=⟨_,rfl⟩
 rw [hW2] at h1 h2 h3 h4
 have q0:W2.cell? ⟨w.heap.size,0,none⟩=some (.int .i64 fl):=by unfold World.cell?;rw [h1];rfl
 have q1:W2.cell? ⟨w.heap.size,1,none⟩=some (.int .i64 fu):=by unfold World.cell?;rw [h1];rfl
 have q2:W2.cell? ⟨w.heap.size,2,none⟩=some (.int .i64 tl):=by unfold World.cell?;rw [h1];rfl
 have q3:W2.cell? ⟨w.heap.size,3,none⟩=some (.int .i64 tu):=by unfold World.cell?;rw [h1];rfl
 have q4:W2.cell? ⟨w.heap.size,4,none⟩=some (.string ⟨t.toArray⟩):=by unfold World.cell?;rw [h1];rfl
 have q5:W2.cell? ⟨w.heap.size,5,none⟩=some (.bool false):=by unfold World.cell?;rw [h1];rfl
 have hz2:w.heap.size+2≤W2.heap.size:=by omega
 have hne:w.heap.size≠w.heap.size+1:=by omega
 have HB2:=Lib.hid h3
 have HQ4:=Lib.hid q4
 have hc:∀ W,Open (w.heap.size+1) W2 W→(W.cell? ⟨w.heap.size,0,none⟩=some (.int .i64 fl)∧W.cell? ⟨w.heap.size,1,none⟩=some (.int .i64 fu)∧W.cell? ⟨w.heap.size,2,none⟩=some (.int .i64 tl)∧W.cell? ⟨w.heap.size,3,none⟩=some (.int .i64 tu)∧Open (w.heap.size+1) W2 W):=fun W hO=>⟨hO.cell q0 hne,hO.cell q1 hne,hO.cell q2 hne,hO.cell q3 hne,hO⟩
 have cP:∀ x y W,(W.cell? ⟨w.heap.size,0,none⟩=some (.int .i64 fl)∧W.cell? ⟨w.heap.size,1,none⟩=some (.int .i64 fu)∧W.cell? ⟨w.heap.size,2,none⟩=some (.int .i64 tl)∧W.cell? ⟨w.heap.size,3,none⟩=some (.int .i64 tu)∧Open (w.heap.size+1) W2 W)→Calls Tryz.prog 59 #[.agg #[.int .i64 x,.int .i64 y]] W fun e w'=>∃ a1 a2 a3 a4,e=.returned (.agg #[.int .i64 5,.bool false,.int .i64 0,.string ⟨#[]⟩,.slice a1 2 a2,.slice a3 2 a4])∧Hid (ValIn w' (fun b=>W.heap.size≤b∧b<w'.heap.size) (atPlace ⟨x,y⟩) (.slice a1 2 a2) (.slice a3 2 a4))∧Hid (Below W.heap.size W w')∧W.heap.size≤w'.heap.size∧W2.heap.size≤W.heap.size∧(w'.cell? ⟨w.heap.size,0,none⟩=some (.int .i64 fl)∧w'.cell? ⟨w.heap.size,1,none⟩=some (.int .i64 fu)∧w'.cell? ⟨w.heap.size,2,none⟩=some (.int .i64 tl)∧w'.cell? ⟨w.heap.size,3,none⟩=some (.int .i64 tu)∧Open (w.heap.size+1) W2 w'):=fun x y W hS=>by
  refine (place_any ⟨x,y⟩ W).mono ?_
  rintro e w' ⟨hb,lv,kv,rfl,hv⟩
  have hv':=hv
  obtain ⟨⟨a1,c1,rfl,_⟩,⟨a2,c2,rfl,_⟩⟩:=hv'
  have hO:=hS.2.2.2.2
  exact ⟨a1,c1,a2,c2,rfl,Lib.hid (ValIn.bound _ _ _ hv),Lib.hid hb,hb.size,hO.size,hc _ (hO.later hb)⟩
 have cR:∀ W g d a1 a2 a3 a4 b1 b2 b3 b4,(W.cell? ⟨w.heap.size,0,none⟩=some (.int .i64 fl)∧W.cell? ⟨w.heap.size,1,none⟩=some (.int .i64 fu)∧W.cell? ⟨w.heap.size,2,none⟩=some (.int .i64 tl)∧W.cell? ⟨w.heap.size,3,none⟩=some (.int .i64 tu)∧Open (w.heap.size+1) W2 W)→ValIn W (fun b=>W2.heap.size≤b∧b≠d) (atPlace ⟨fl,fu⟩) (.slice a1 2 a2) (.slice a3 2 a4)→ValIn W (fun b=>W2.heap.size≤b∧b≠d) (atPlace ⟨tl,tu⟩) (.slice b1 2 b2) (.slice b3 2 b4)→W.heap[g]?=some (.cells #[.string ⟨#[115,116,97,114,116]⟩,.int .i64 5,.bool false,.int .i64 0,.string ⟨#[]⟩,.slice a1 2 a2,.slice a3 2 a4,.string ⟨#[101,110,100]⟩,.int .i64 5,.bool false,.int .i64 0,.string ⟨#[]⟩,.slice b1 2 b2,.slice b3 2 b4] 78 (0,0))→W.heap[d]?=some (.cells #[.int .i64 0,.bool false,.int .i64 0,.string ⟨#[]⟩,.slice none 0 0,.slice none 0 0] 36 (0,0))→W2.heap.size≤d →
   Calls Tryz.prog 50 #[.slice (some ⟨g,0,none⟩) 2 2] W fun e w'=>∃ a c a' c' d',e=.returned (.agg #[.int .i64 5,.bool false,.int .i64 0,.string ⟨#[]⟩,.slice a 2 c,.slice a' 2 c'])∧Hid (ValIn w' (fun b=>W2.heap.size≤b∧b≠d) (recP [bStart,bEnd] [atPlace ⟨fl,fu⟩,atPlace ⟨tl,tu⟩]) (.slice a 2 c) (.slice a' 2 c'))∧W2.heap.size≤d∧Hid (d=d') ∧
    w'.cell? ⟨d,0,none⟩=some (.int .i64 0)∧w'.cell? ⟨d,1,none⟩=some (.bool false)∧w'.cell? ⟨d,2,none⟩=some (.int .i64 0)∧w'.cell? ⟨d,3,none⟩=some (.string ⟨#[]⟩)∧w'.cell? ⟨d,4,none⟩=some (.slice none 0 0)∧w'.cell? ⟨d,5,none⟩=some (.slice none 0 0)∧(∀ i,w'.frozen? ⟨d,i,none⟩=false)∧Hid (w'.heap[d]?=some (.cells #[.int .i64 0,.bool false,.int .i64 0,.string ⟨#[]⟩,.slice none 0 0,.slice none 0 0] 36 (0,0)))∧(w'.cell? ⟨w.heap.size,0,none⟩=some (.int .i64 fl)∧w'.cell? ⟨w.heap.size,1,none⟩=some (.int .i64 fu)∧w'.cell? ⟨w.heap.size,2,none⟩=some (.int .i64 tl)∧w'.cell? ⟨w.heap.size,3,none⟩=some (.int .i64 tu)∧Open (w.heap.size+1) W2 w'):=fun W g d a1 a2 a3 a4 b1 b2 b3 b4 hS hva hvb hg hd hdd=>by
  have hO:=hS.2.2.2.2
  have hdl:d<W.heap.size:=(Array.getElem?_eq_some_iff.1 hd).1
  have hP:PartsAt W (fun b=>W2.heap.size≤b∧b≠d) [(bStart,atPlace ⟨fl,fu⟩),(bEnd,atPlace ⟨tl,tu⟩)] g 0:=⟨_,cells_of_block hg,.slice a1 2 a2,.slice a3 2 a4,_,rfl,hva,.slice b1 2 b2,.slice b3 2 b4,[],rfl,hvb,rfl⟩
  refine (record_any _ g 0 2 _ W hP (by simp)).mono ?_
  rintro e w' ⟨hb,lv,kv,rfl,hv⟩
  have hv':=hv
  obtain ⟨⟨a,c,rfl,_⟩,⟨a',c',rfl,_⟩⟩:=hv'
  have hz:=(hb.block d hdl).trans hd
  have hOs:=hO.size
  obtain ⟨⟨k0,k1,k2,k3,k4,k5⟩,kf⟩:=cells_six hz
  exact ⟨a,c,a',c',d,rfl,Lib.hid (ValIn.later (fun _ _ _=>rfl) (fun b hb=>by rcases hb with hb|hb;exact hb;constructor <;> omega) _ _ _ hv),hdd,Lib.hid rfl,k0,k1,k2,k3,k4,k5,kf,Lib.hid hz,hc _ (hO.later hb)⟩
 have cR1:∀ W g a1 a2 a3 a4 b1 b2 b3 b4,(W.cell? ⟨w.heap.size,0,none⟩=some (.int .i64 fl)∧W.cell? ⟨w.heap.size,1,none⟩=some (.int .i64 fu)∧W.cell? ⟨w.heap.size,2,none⟩=some (.int .i64 tl)∧W.cell? ⟨w.heap.size,3,none⟩=some (.int .i64 tu)∧Open (w.heap.size+1) W2 W)→ValIn W (fun b=>W2.heap.size≤b) (atPlace ⟨fl,fu⟩) (.slice a1 2 a2) (.slice a3 2 a4)→ValIn W (fun b=>W2.heap.size≤b) (atPlace ⟨tl,tu⟩) (.slice b1 2 b2) (.slice b3 2 b4)→W.heap[g]?=some (.cells #[.string ⟨#[115,116,97,114,116]⟩,.int .i64 5,.bool false,.int .i64 0,.string ⟨#[]⟩,.slice a1 2 a2,.slice a3 2 a4,.string ⟨#[101,110,100]⟩,.int .i64 5,.bool false,.int .i64 0,.string ⟨#[]⟩,.slice b1 2 b2,.slice b3 2 b4] 78 (0,0)) →
   Calls Tryz.prog 50 #[.slice (some ⟨g,0,none⟩) 2 2] W fun e w'=>∃ a c a' c',e=.returned (.agg #[.int .i64 5,.bool false,.int .i64 0,.string ⟨#[]⟩,.slice a 2 c,.slice a' 2 c'])∧Hid (ValIn w' (fun b=>W2.heap.size≤b) (recP [bStart,bEnd] [atPlace ⟨fl,fu⟩,atPlace ⟨tl,tu⟩]) (.slice a 2 c) (.slice a' 2 c'))∧(w'.cell? ⟨w.heap.size,0,none⟩=some (.int .i64 fl)∧w'.cell? ⟨w.heap.size,1,none⟩=some (.int .i64 fu)∧w'.cell? ⟨w.heap.size,2,none⟩=some (.int .i64 tl)∧w'.cell? ⟨w.heap.size,3,none⟩=some (.int .i64 tu)∧Open (w.heap.size+1) W2 w'):=fun W g a1 a2 a3 a4 b1 b2 b3 b4 hS hva hvb hg=>by
  have hP:PartsAt W (fun b=>W2.heap.size≤b) [(bStart,atPlace ⟨fl,fu⟩),(bEnd,atPlace ⟨tl,tu⟩)] g 0:=⟨_,cells_of_block hg,.slice a1 2 a2,.slice a3 2 a4,_,rfl,hva,.slice b1 2 b2,.slice b3 2 b4,[],rfl,hvb,rfl⟩
  have hO:=hS.2.2.2.2
  refine (made_rec (c:=2) (B:=W2.heap.size) hP (by simp) (fun b h=>h) hO.size hO).mono ?_
  rintro e w' ⟨a,c,a',c',rfl,hv,hO'⟩
  exact ⟨a,c,a',c',rfl,hv,hc _ hO'.out⟩
 have hA:∀ W ob,(W.cell? ⟨w.heap.size,0,none⟩=some (.int .i64 fl)∧W.cell? ⟨w.heap.size,1,none⟩=some (.int .i64 fu)∧W.cell? ⟨w.heap.size,2,none⟩=some (.int .i64 tl)∧W.cell? ⟨w.heap.size,3,none⟩=some (.int .i64 tu)∧Open (w.heap.size+1) W2 W)→((W.alloc ob).cell? ⟨w.heap.size,0,none⟩=some (.int .i64 fl)∧(W.alloc ob).cell? ⟨w.heap.size,1,none⟩=some (.int .i64 fu)∧(W.alloc ob).cell? ⟨w.heap.size,2,none⟩=some (.int .i64 tl)∧(W.alloc ob).cell? ⟨w.heap.size,3,none⟩=some (.int .i64 tu)∧Open (w.heap.size+1) W2 (W.alloc ob)):=fun W ob hS=>hc _ (hS.2.2.2.2.alloc ob)
 have hT:∀ W d i v,W2.heap.size≤d→(W.cell? ⟨w.heap.size,0,none⟩=some (.int .i64 fl)∧W.cell? ⟨w.heap.size,1,none⟩=some (.int .i64 fu)∧W.cell? ⟨w.heap.size,2,none⟩=some (.int .i64 tl)∧W.cell? ⟨w.heap.size,3,none⟩=some (.int .i64 tu)∧Open (w.heap.size+1) W2 W)→((W.setCell ⟨d,i,none⟩ v).cell? ⟨w.heap.size,0,none⟩=some (.int .i64 fl)∧(W.setCell ⟨d,i,none⟩ v).cell? ⟨w.heap.size,1,none⟩=some (.int .i64 fu)∧(W.setCell ⟨d,i,none⟩ v).cell? ⟨w.heap.size,2,none⟩=some (.int .i64 tl)∧(W.setCell ⟨d,i,none⟩ v).cell? ⟨w.heap.size,3,none⟩=some (.int .i64 tu)∧Open (w.heap.size+1) W2 (W.setCell ⟨d,i,none⟩ v)):=fun W d i v hd hS=>hc _ (hS.2.2.2.2.other d i v hd)
 have hS0:(W2.drew.cell? ⟨w.heap.size,0,none⟩=some (.int .i64 fl)∧W2.drew.cell? ⟨w.heap.size,1,none⟩=some (.int .i64 fu)∧W2.drew.cell? ⟨w.heap.size,2,none⟩=some (.int .i64 tl)∧W2.drew.cell? ⟨w.heap.size,3,none⟩=some (.int .i64 tu)∧Open (w.heap.size+1) W2 (W2.drew)):=hc _ (Open.start h2).drew
 have hvA:∀ W ob R v lv kv,ValIn W R v lv kv→ValIn (W.alloc ob) R v lv kv:=fun W ob R v lv kv h=>val_below h ((Below.refl _ _).alloc (Nat.le_refl _) ob)
 have hvR:∀ W R (R':Nat→Prop) v lv kv,(∀ b,R b→R' b)→ValIn W R v lv kv→ValIn W R' v lv kv:=fun W R R' v lv kv hR h=>ValIn.later (fun _ _ _=>rfl) hR _ _ _ h
 have hS00:(W2.drew.cell? ⟨w.heap.size,0,none⟩=some (.int .i64 fl)∧W2.drew.cell? ⟨w.heap.size,1,none⟩=some (.int .i64 fu)∧W2.drew.cell? ⟨w.heap.size,2,none⟩=some (.int .i64 tl)∧W2.drew.cell? ⟨w.heap.size,3,none⟩=some (.int .i64 tu)∧Open (w.heap.size+1) W2 (W2.drew)):=hS0
 have hdz:∀ W:World,W.drew.heap.size=W.heap.size:=fun _=>rfl
 have hAD:∀ ob,(((W2.alloc ob).drew).cell? ⟨w.heap.size,0,none⟩=some (.int .i64 fl)∧((W2.alloc ob).drew).cell? ⟨w.heap.size,1,none⟩=some (.int .i64 fu)∧((W2.alloc ob).drew).cell? ⟨w.heap.size,2,none⟩=some (.int .i64 tl)∧((W2.alloc ob).drew).cell? ⟨w.heap.size,3,none⟩=some (.int .i64 tu)∧Open (w.heap.size+1) W2 ((W2.alloc ob).drew)):=fun ob=>hc _ ((Open.start h2).alloc ob).drew
 clear h1 h2 h3 h4 hc q4
 go_enter Tryz.func91,Tryz.ntmps91
 go_upto_region 3 with fail
 go_region_held3 (fun W=>(W.cell? ⟨w.heap.size,0,none⟩=some (.int .i64 fl)∧W.cell? ⟨w.heap.size,1,none⟩=some (.int .i64 fu)∧W.cell? ⟨w.heap.size,2,none⟩=some (.int .i64 tl)∧W.cell? ⟨w.heap.size,3,none⟩=some (.int .i64 tu)∧Open (w.heap.size+1) W2 W)) (with_reducible (repeat (first|assumption|exact hAD _|refine hA _ _ ?_|refine hT _ _ _ _ ?_ ?_))) (first
  | (go_at_call 59;(with_reducible refine (cP _ _ _ ?_).mono ?_);(with_reducible first|assumption|exact hAD _|(refine hA _ _ ?_;assumption));rintro e wb ⟨b1,b2,b3,b4,rfl,hvb,hbb,hsb1,hsb2,hSb⟩;(first|have hva2:=Lib.hid (val_below hva.out hbb.out)|have hva2:=Lib.hid (val_below (hvA _ _ _ _ _ _ hva.out) hbb.out)))
  | (go_at_call 59;(with_reducible refine (cP _ _ _ ?_).mono ?_);(with_reducible first|assumption|exact hAD _|(refine hA _ _ ?_;assumption));rintro e wa ⟨a1,a2,a3,a4,rfl,hva,hba,hsa1,hsa2,hSa⟩)
  | (go_at_call 50;(with_reducible refine (cR _ _ (wb.heap.size+1) a1 a2 a3 a4 b1 b2 b3 b4 ?_ ?_ ?_ ?_ ?_ ?_).mono ?_);(with_reducible (repeat (first|assumption|refine hA _ _ ?_)));(refine hvA _ _ _ _ _ _ (hvA _ _ _ _ _ _ (hvR _ _ _ _ _ _ ?_ hva2.out));intro b hb;simp only [hdz] at hb hsb1 hsb2 hsa1 hsa2 ⊢;omega);(refine hvA _ _ _ _ _ _ (hvA _ _ _ _ _ _ (hvR _ _ _ _ _ _ ?_ hvb.out));intro b hb;simp only [hdz] at hb hsb1 hsb2 hsa1 hsa2 ⊢;omega);(exact (two wb _ _).1);(exact (two wb _ _).2.1);(simp only [hdz] at hsb1 hsb2 hsa1 hsa2 ⊢;omega);rintro e wq ⟨a,c,a',c',d,rfl,hv,hdq,HD,k0,k1,k2,k3,k4,k5,kf,hh,hSq⟩)
  | (go_at_call 50;(with_reducible refine (cR _ _ wb.heap.size a1 a2 a3 a4 b1 b2 b3 b4 ?_ ?_ ?_ ?_ ?_ ?_).mono ?_);(with_reducible (repeat (first|assumption|refine hA _ _ ?_)));(refine hvA _ _ _ _ _ _ (hvA _ _ _ _ _ _ (hvR _ _ _ _ _ _ ?_ hva2.out));intro b hb;simp only [hdz] at hb hsb1 hsb2 hsa1 hsa2 ⊢;omega);(refine hvA _ _ _ _ _ _ (hvA _ _ _ _ _ _ (hvR _ _ _ _ _ _ ?_ hvb.out));intro b hb;simp only [hdz] at hb hsb1 hsb2 hsa1 hsa2 ⊢;omega);(exact (two wb _ _).2.1);(exact (two wb _ _).1);(simp only [hdz] at hsb1 hsb2 hsa1 hsa2 ⊢;omega);rintro e wq ⟨a,c,a',c',d,rfl,hv,hdq,HD,k0,k1,k2,k3,k4,k5,kf,hh,hSq⟩)
  | (go_at_call 50;(with_reducible refine (cR _ _ wa.heap.size a1 a2 a3 a4 b1 b2 b3 b4 ?_ ?_ ?_ ?_ ?_ ?_).mono ?_);(with_reducible (repeat (first|assumption|refine hA _ _ ?_)));(refine hvA _ _ _ _ _ _ (hvR _ _ _ _ _ _ ?_ hva2.out);intro b hb;simp only [World.size_alloc,hdz] at hb hsb1 hsb2 hsa1 hsa2 ⊢;omega);(refine hvA _ _ _ _ _ _ (hvR _ _ _ _ _ _ ?_ hvb.out);intro b hb;simp only [World.size_alloc,hdz] at hb hsb1 hsb2 hsa1 hsa2 ⊢;omega);(exact heap_alloc_new _ _);(refine (Below.heap_alloc _ _ _ ?_).trans ((hbb.out.block _ ?_).trans (heap_alloc_new wa _));(simp only [World.size_alloc,hdz] at hsb1 hsb2 hsa1 hsa2 ⊢;omega);(simp only [World.size_alloc];omega));(simp only [World.size_alloc,hdz] at hsb1 hsb2 hsa1 hsa2 ⊢;omega);rintro e wq ⟨a,c,a',c',d,rfl,hv,hdq,HD,k0,k1,k2,k3,k4,k5,kf,hh,hSq⟩)
  | (go_at_call 50;(with_reducible refine (cR _ _ W2.heap.size a1 a2 a3 a4 b1 b2 b3 b4 ?_ ?_ ?_ ?_ ?_ ?_).mono ?_);(with_reducible (repeat (first|assumption|refine hA _ _ ?_)));(refine hvA _ _ _ _ _ _ (hvR _ _ _ _ _ _ ?_ hva2.out);intro b hb;simp only [World.size_alloc,hdz] at hb hsb1 hsb2 hsa1 hsa2 ⊢;omega);(refine hvA _ _ _ _ _ _ (hvR _ _ _ _ _ _ ?_ hvb.out);intro b hb;simp only [World.size_alloc,hdz] at hb hsb1 hsb2 hsa1 hsa2 ⊢;omega);(exact heap_alloc_new _ _);(refine (Below.heap_alloc _ _ _ ?_).trans ((hbb.out.block _ ?_).trans ((hba.out.block _ ?_).trans (heap_alloc_new W2 _)));(simp only [World.size_alloc,hdz] at hsb1 hsb2 hsa1 hsa2 ⊢;omega);(simp only [World.size_alloc,hdz] at hsb1 hsb2 hsa1 hsa2 ⊢;omega);(simp only [World.size_alloc,hdz];omega));(exact Nat.le_refl _);rintro e wq ⟨a,c,a',c',d,rfl,hv,hdq,HD,k0,k1,k2,k3,k4,k5,kf,hh,hSq⟩)
  | (go_at_call 50;(with_reducible refine (cR1 _ _ a1 a2 a3 a4 b1 b2 b3 b4 ?_ ?_ ?_ ?_).mono ?_);(with_reducible (repeat (first|assumption|refine hA _ _ ?_)));(refine hvA _ _ _ _ _ _ (hvR _ _ _ _ _ _ ?_ hva2.out);intro b hb;simp only [hdz] at hb hsb1 hsb2 hsa1 hsa2 ⊢;omega);(refine hvA _ _ _ _ _ _ (hvR _ _ _ _ _ _ ?_ hvb.out);intro b hb;simp only [hdz] at hb hsb1 hsb2 hsa1 hsa2 ⊢;omega);(exact heap_alloc_new _ _);rintro e wq ⟨a,c,a',c',rfl,hv,hSq⟩))
 all_goals first
  | (
   have hO3:=hSq.2.2.2.2
   have hBq:=hO3.below HB2.out (Nat.le_succ _) (by omega)
   have hd:=HD.out
   rw [hd] at hv hdq k0 k1 k2 k3 k4 k5 kf hh ⊢
   obtain ⟨HP3,HM3,HV3⟩:=ret6 hh.out hBq (show w.heap.size≤d by omega) hv.out (fun b hb=>hb.2)
   have hO5:=((((((hO3.other d 0 (.int .i64 5) hdq).other d 1 (.bool false) hdq).other d 2 (.int .i64 0) hdq).other d 3 (.string ⟨#[]⟩) hdq).other d 4 (.slice a 2 c) hdq).other d 5 (.slice a' 2 c') hdq)
   obtain ⟨W4,hW4⟩:∃ W4,((((((wq.setCell ⟨d,0,none⟩ (.int .i64 5)).setCell ⟨d,1,none⟩ (.bool false)).setCell ⟨d,2,none⟩ (.int .i64 0)).setCell ⟨d,3,none⟩ (.string ⟨#[]⟩)).setCell ⟨d,4,none⟩ (.slice a 2 c)).setCell ⟨d,5,none⟩ (.slice a' 2 c'))=W4:=⟨_,rfl⟩
   have hx4:W4.heap[d]?=some (.cells #[.int .i64 5,.bool false,.int .i64 0,.string ⟨#[]⟩,.slice a 2 c,.slice a' 2 c'] 36 (0,0)):=by rw [← hW4];exact HP3.out
   have hO4:Open (w.heap.size+1) W4 W4:=by rw [← hW4];exact hO5.now
   have hB4:Below w.heap.size w W4:=by rw [← hW4];exact HM3.out
   have hv4:ValIn W4 (fun b=>W2.heap.size≤b∧b≠d) (recP [bStart,bEnd] [atPlace ⟨fl,fu⟩,atPlace ⟨tl,tu⟩]) (.slice a 2 c) (.slice a' 2 c'):=by rw [← hW4];exact HV3.out
   have hz4:W2.heap.size≤W4.heap.size:=by rw [← hW4];exact hO5.size
   have p4:W4.cell? ⟨w.heap.size,4,none⟩=some (.string ⟨t.toArray⟩):=by rw [← hW4];exact hO5.cell HQ4.out hne
   clear HP3 HM3 HV3 k0 k1 k2 k3 k4 k5 kf hh)
  | (
   have hO3:=hSq.2.2.2.2
   have hBq:=hO3.below HB2.out (Nat.le_succ _) (by omega)
   obtain ⟨HP3,HM3,HV3⟩:=ret6 hh.out hBq (show w.heap.size≤W2.heap.size by omega) hv.out (fun b hb=>hb.2)
   have hO5:=((((((hO3.other W2.heap.size 0 (.int .i64 5) hdq).other W2.heap.size 1 (.bool false) hdq).other W2.heap.size 2 (.int .i64 0) hdq).other W2.heap.size 3 (.string ⟨#[]⟩) hdq).other W2.heap.size 4 (.slice a 2 c) hdq).other W2.heap.size 5 (.slice a' 2 c') hdq)
   obtain ⟨W4,hW4⟩:∃ W4,((((((wq.setCell ⟨W2.heap.size,0,none⟩ (.int .i64 5)).setCell ⟨W2.heap.size,1,none⟩ (.bool false)).setCell ⟨W2.heap.size,2,none⟩ (.int .i64 0)).setCell ⟨W2.heap.size,3,none⟩ (.string ⟨#[]⟩)).setCell ⟨W2.heap.size,4,none⟩ (.slice a 2 c)).setCell ⟨W2.heap.size,5,none⟩ (.slice a' 2 c'))=W4:=⟨_,rfl⟩
   have hx5:W4.heap[W2.heap.size]?=some (.cells #[.int .i64 5,.bool false,.int .i64 0,.string ⟨#[]⟩,.slice a 2 c,.slice a' 2 c'] 36 (0,0)):=by rw [← hW4];exact HP3.out
   have hO4:Open (w.heap.size+1) W4 W4:=by rw [← hW4];exact hO5.now
   have hB4:Below w.heap.size w W4:=by rw [← hW4];exact HM3.out
   have hv5:ValIn W4 (fun b=>W2.heap.size≤b∧b≠W2.heap.size) (recP [bStart,bEnd] [atPlace ⟨fl,fu⟩,atPlace ⟨tl,tu⟩]) (.slice a 2 c) (.slice a' 2 c'):=by rw [← hW4];exact HV3.out
   have hz4:W2.heap.size≤W4.heap.size:=by rw [← hW4];exact hO5.size
   have p4:W4.cell? ⟨w.heap.size,4,none⟩=some (.string ⟨t.toArray⟩):=by rw [← hW4];exact hO5.cell HQ4.out hne
   clear HP3 HM3 HV3 k0 k1 k2 k3 k4 k5 kf hh HD
   obtain ⟨d,hd⟩:∃ d,W2.heap.size=d:=⟨_,rfl⟩
   have hx4:W4.heap[d]?=some (.cells #[.int .i64 5,.bool false,.int .i64 0,.string ⟨#[]⟩,.slice a 2 c,.slice a' 2 c'] 36 (0,0)):=by rw [← hd];exact hx5
   have hv4:ValIn W4 (fun b=>W2.heap.size≤b∧b≠d) (recP [bStart,bEnd] [atPlace ⟨fl,fu⟩,atPlace ⟨tl,tu⟩]) (.slice a 2 c) (.slice a' 2 c'):=by rw [← hd];exact hv5
   rw [hd] at hdq
   clear hx5 hv5
   rw [hW4]
   rw [hd])
  | (
   have hO3:=hSq.2.2.2.2
   have hBq:=hO3.below HB2.out (Nat.le_succ _) (by omega)
   obtain ⟨d,hd⟩:∃ d,wq.heap.size=d:=⟨_,rfl⟩
   have hdq:W2.heap.size≤d:=by have:=hO3.size;omega
   have hO5:=hO3.alloc (.cells #[.int .i64 5,.bool false,.int .i64 0,.string ⟨#[]⟩,.slice a 2 c,.slice a' 2 c'] 36)
   obtain ⟨W4,hW4⟩:∃ W4,wq.alloc (.cells #[.int .i64 5,.bool false,.int .i64 0,.string ⟨#[]⟩,.slice a 2 c,.slice a' 2 c'] 36)=W4:=⟨_,rfl⟩
   have hx4:W4.heap[d]?=some (.cells #[.int .i64 5,.bool false,.int .i64 0,.string ⟨#[]⟩,.slice a 2 c,.slice a' 2 c'] 36 (0,0)):=by rw [← hW4,← hd];exact heap_alloc_new _ _
   have hO4:Open (w.heap.size+1) W4 W4:=by rw [← hW4];exact hO5.now
   have hB4:Below w.heap.size w W4:=by rw [← hW4];exact hBq.alloc hBq.size _
   have hv4:ValIn W4 (fun b=>W2.heap.size≤b∧b≠d) (recP [bStart,bEnd] [atPlace ⟨fl,fu⟩,atPlace ⟨tl,tu⟩]) (.slice a 2 c) (.slice a' 2 c'):=by rw [← hW4];exact ValIn.later (fun b hb _=>Below.heap_alloc _ _ _ hb.2) (fun b hb=>⟨hb.1,by omega⟩) _ _ _ (ValIn.bound _ _ _ hv.out)
   have hz4:W2.heap.size≤W4.heap.size:=by rw [← hW4];exact hO5.size
   have p4:W4.cell? ⟨w.heap.size,4,none⟩=some (.string ⟨t.toArray⟩):=by rw [← hW4];exact hO5.cell HQ4.out hne)
 all_goals
  have hnd:d≠w.heap.size+1:=by omega
  have d0:W4.cell? ⟨d,0,none⟩=some (.int .i64 5):=by unfold World.cell?;rw [hx4];rfl
  have d1:W4.cell? ⟨d,1,none⟩=some (.bool false):=by unfold World.cell?;rw [hx4];rfl
  have d2:W4.cell? ⟨d,2,none⟩=some (.int .i64 0):=by unfold World.cell?;rw [hx4];rfl
  have d3:W4.cell? ⟨d,3,none⟩=some (.string ⟨#[]⟩):=by unfold World.cell?;rw [hx4];rfl
  have d4:W4.cell? ⟨d,4,none⟩=some (.slice a 2 c):=by unfold World.cell?;rw [hx4];rfl
  have d5:W4.cell? ⟨d,5,none⟩=some (.slice a' 2 c'):=by unfold World.cell?;rw [hx4];rfl
  have hc4:∀ W,Open (w.heap.size+1) W4 W→(W.cell? ⟨w.heap.size,4,none⟩=some (.string ⟨t.toArray⟩)∧W.cell? ⟨d,0,none⟩=some (.int .i64 5)∧W.cell? ⟨d,1,none⟩=some (.bool false)∧W.cell? ⟨d,2,none⟩=some (.int .i64 0)∧W.cell? ⟨d,3,none⟩=some (.string ⟨#[]⟩)∧W.cell? ⟨d,4,none⟩=some (.slice a 2 c)∧W.cell? ⟨d,5,none⟩=some (.slice a' 2 c')∧Open (w.heap.size+1) W4 W):=fun W hO=>⟨hO.cell p4 hne,hO.cell d0 hnd,hO.cell d1 hnd,hO.cell d2 hnd,hO.cell d3 hnd,hO.cell d4 hnd,hO.cell d5 hnd,hO⟩
  have cT:∀ W,(W.cell? ⟨w.heap.size,4,none⟩=some (.string ⟨t.toArray⟩)∧W.cell? ⟨d,0,none⟩=some (.int .i64 5)∧W.cell? ⟨d,1,none⟩=some (.bool false)∧W.cell? ⟨d,2,none⟩=some (.int .i64 0)∧W.cell? ⟨d,3,none⟩=some (.string ⟨#[]⟩)∧W.cell? ⟨d,4,none⟩=some (.slice a 2 c)∧W.cell? ⟨d,5,none⟩=some (.slice a' 2 c')∧Open (w.heap.size+1) W4 W)→Calls Tryz.prog 31 #[.string ⟨t.toArray⟩] W fun e w'=>e=.returned (.agg #[.int .i64 3,.bool false,.int .i64 0,.string ⟨t.toArray⟩,.slice none 0 0,.slice none 0 0])∧(w'.cell? ⟨w.heap.size,4,none⟩=some (.string ⟨t.toArray⟩)∧w'.cell? ⟨d,0,none⟩=some (.int .i64 5)∧w'.cell? ⟨d,1,none⟩=some (.bool false)∧w'.cell? ⟨d,2,none⟩=some (.int .i64 0)∧w'.cell? ⟨d,3,none⟩=some (.string ⟨#[]⟩)∧w'.cell? ⟨d,4,none⟩=some (.slice a 2 c)∧w'.cell? ⟨d,5,none⟩=some (.slice a' 2 c')∧Open (w.heap.size+1) W4 w'):=fun W hS=>by
   refine (text_any _ W).mono ?_
   rintro e w' ⟨h1,h2⟩
   exact ⟨h1,hc4 _ (hS.2.2.2.2.2.2.2.later h2)⟩
  have cR4:∀ W g,(W.cell? ⟨w.heap.size,4,none⟩=some (.string ⟨t.toArray⟩)∧W.cell? ⟨d,0,none⟩=some (.int .i64 5)∧W.cell? ⟨d,1,none⟩=some (.bool false)∧W.cell? ⟨d,2,none⟩=some (.int .i64 0)∧W.cell? ⟨d,3,none⟩=some (.string ⟨#[]⟩)∧W.cell? ⟨d,4,none⟩=some (.slice a 2 c)∧W.cell? ⟨d,5,none⟩=some (.slice a' 2 c')∧Open (w.heap.size+1) W4 W)→W.heap[g]?=some (.cells #[.string ⟨#[116,101,120,116]⟩,.int .i64 3,.bool false,.int .i64 0,.string ⟨t.toArray⟩,.slice none 0 0,.slice none 0 0,.string ⟨#[114,97,110,103,101]⟩,.int .i64 5,.bool false,.int .i64 0,.string ⟨#[]⟩,.slice a 2 c,.slice a' 2 c'] 78 (0,0)) →
    Calls Tryz.prog 50 #[.slice (some ⟨g,0,none⟩) 2 2] W fun e w'=>∃ b1 b2 b3 b4 y0 y1 y2 y3 y4 y5,e=.returned (.agg #[.int .i64 5,.bool false,.int .i64 0,.string ⟨#[]⟩,.slice b1 2 b2,.slice b3 2 b4])∧Hid (ValIn w' (fun b=>W2.heap.size≤b) (recP [bText,bRange] [strP t,recP [bStart,bEnd] [atPlace ⟨fl,fu⟩,atPlace ⟨tl,tu⟩]]) (.slice b1 2 b2) (.slice b3 2 b4))∧w'.cell? ⟨w.heap.size+1,0,none⟩=some y0∧w'.cell? ⟨w.heap.size+1,1,none⟩=some y1∧w'.cell? ⟨w.heap.size+1,2,none⟩=some y2∧w'.cell? ⟨w.heap.size+1,3,none⟩=some y3∧w'.cell? ⟨w.heap.size+1,4,none⟩=some y4∧w'.cell? ⟨w.heap.size+1,5,none⟩=some y5∧(∀ i,w'.frozen? ⟨w.heap.size+1,i,none⟩=false)∧Hid (w'.heap[w.heap.size+1]?=some (.cells #[y0,y1,y2,y3,y4,y5] 36 (0,0)))∧(w'.cell? ⟨w.heap.size,4,none⟩=some (.string ⟨t.toArray⟩)∧w'.cell? ⟨d,0,none⟩=some (.int .i64 5)∧w'.cell? ⟨d,1,none⟩=some (.bool false)∧w'.cell? ⟨d,2,none⟩=some (.int .i64 0)∧w'.cell? ⟨d,3,none⟩=some (.string ⟨#[]⟩)∧w'.cell? ⟨d,4,none⟩=some (.slice a 2 c)∧w'.cell? ⟨d,5,none⟩=some (.slice a' 2 c')∧Open (w.heap.size+1) W4 w'):=fun W g hS hg=>by
   have hO:=hS.2.2.2.2.2.2.2
   have hP:PartsAt W (fun b=>W2.heap.size≤b) [(bText,strP t),(bRange,recP [bStart,bEnd] [atPlace ⟨fl,fu⟩,atPlace ⟨tl,tu⟩])] g 0:=⟨_,cells_of_block hg,.slice none 0 0,.slice none 0 0,_,rfl,leaf_in _ _ _ _ _ _,.slice a 2 c,.slice a' 2 c',[],rfl,ValIn.later (fun _ _ _=>rfl) (fun b hb=>hb.1) _ _ _ (hO.val hv4 (fun b hb=>by omega)),rfl⟩
   refine (made_rec (c:=2) (B:=W2.heap.size) hP (by simp) (fun b h=>h) (Nat.le_trans hz4 hO.size) hO).mono ?_
   rintro e w' ⟨b1,b2,b3,b4,rfl,hv,hO'⟩
   obtain ⟨y0,y1,y2,y3,y4,y5,k0,k1,k2,k3,k4,k5,kf,hh⟩:=hO'.out.cells
   exact ⟨b1,b2,b3,b4,y0,y1,y2,y3,y4,y5,rfl,hv,k0,k1,k2,k3,k4,k5,kf,hh,hc4 _ hO'.out⟩
  have hA4:∀ W ob,(W.cell? ⟨w.heap.size,4,none⟩=some (.string ⟨t.toArray⟩)∧W.cell? ⟨d,0,none⟩=some (.int .i64 5)∧W.cell? ⟨d,1,none⟩=some (.bool false)∧W.cell? ⟨d,2,none⟩=some (.int .i64 0)∧W.cell? ⟨d,3,none⟩=some (.string ⟨#[]⟩)∧W.cell? ⟨d,4,none⟩=some (.slice a 2 c)∧W.cell? ⟨d,5,none⟩=some (.slice a' 2 c')∧Open (w.heap.size+1) W4 W)→((W.alloc ob).cell? ⟨w.heap.size,4,none⟩=some (.string ⟨t.toArray⟩)∧(W.alloc ob).cell? ⟨d,0,none⟩=some (.int .i64 5)∧(W.alloc ob).cell? ⟨d,1,none⟩=some (.bool false)∧(W.alloc ob).cell? ⟨d,2,none⟩=some (.int .i64 0)∧(W.alloc ob).cell? ⟨d,3,none⟩=some (.string ⟨#[]⟩)∧(W.alloc ob).cell? ⟨d,4,none⟩=some (.slice a 2 c)∧(W.alloc ob).cell? ⟨d,5,none⟩=some (.slice a' 2 c')∧Open (w.heap.size+1) W4 (W.alloc ob)):=fun W ob hS=>hc4 _ (hS.2.2.2.2.2.2.2.alloc ob)
  have hT4:∀ W i v,(W.cell? ⟨w.heap.size,4,none⟩=some (.string ⟨t.toArray⟩)∧W.cell? ⟨d,0,none⟩=some (.int .i64 5)∧W.cell? ⟨d,1,none⟩=some (.bool false)∧W.cell? ⟨d,2,none⟩=some (.int .i64 0)∧W.cell? ⟨d,3,none⟩=some (.string ⟨#[]⟩)∧W.cell? ⟨d,4,none⟩=some (.slice a 2 c)∧W.cell? ⟨d,5,none⟩=some (.slice a' 2 c')∧Open (w.heap.size+1) W4 W)→((W.setCell ⟨w.heap.size+1,i,none⟩ v).cell? ⟨w.heap.size,4,none⟩=some (.string ⟨t.toArray⟩)∧(W.setCell ⟨w.heap.size+1,i,none⟩ v).cell? ⟨d,0,none⟩=some (.int .i64 5)∧(W.setCell ⟨w.heap.size+1,i,none⟩ v).cell? ⟨d,1,none⟩=some (.bool false)∧(W.setCell ⟨w.heap.size+1,i,none⟩ v).cell? ⟨d,2,none⟩=some (.int .i64 0)∧(W.setCell ⟨w.heap.size+1,i,none⟩ v).cell? ⟨d,3,none⟩=some (.string ⟨#[]⟩)∧(W.setCell ⟨w.heap.size+1,i,none⟩ v).cell? ⟨d,4,none⟩=some (.slice a 2 c)∧(W.setCell ⟨w.heap.size+1,i,none⟩ v).cell? ⟨d,5,none⟩=some (.slice a' 2 c')∧Open (w.heap.size+1) W4 (W.setCell ⟨w.heap.size+1,i,none⟩ v)):=fun W i v hS=>hc4 _ (hS.2.2.2.2.2.2.2.set i v)
  have hS4:(W4.drew.cell? ⟨w.heap.size,4,none⟩=some (.string ⟨t.toArray⟩)∧W4.drew.cell? ⟨d,0,none⟩=some (.int .i64 5)∧W4.drew.cell? ⟨d,1,none⟩=some (.bool false)∧W4.drew.cell? ⟨d,2,none⟩=some (.int .i64 0)∧W4.drew.cell? ⟨d,3,none⟩=some (.string ⟨#[]⟩)∧W4.drew.cell? ⟨d,4,none⟩=some (.slice a 2 c)∧W4.drew.cell? ⟨d,5,none⟩=some (.slice a' 2 c')∧Open (w.heap.size+1) W4 (W4.drew)):=hc4 _ hO4.drew
  have HB4:=Lib.hid hB4
  try rw [hd]
  try rw [hW4]
  clear hW4
  clear hA hT cP cR cR1 hS0 q0 q1 q2 q3 q5 hW2 hSq hO3 hBq hx4 hO4 hB4 hv4 hc4 hvA hvR hAD hdz hS00 hd hO5
  go_upto_region 4 with fail
  go_region_held3 (fun W=>(W.cell? ⟨w.heap.size,4,none⟩=some (.string ⟨t.toArray⟩)∧W.cell? ⟨d,0,none⟩=some (.int .i64 5)∧W.cell? ⟨d,1,none⟩=some (.bool false)∧W.cell? ⟨d,2,none⟩=some (.int .i64 0)∧W.cell? ⟨d,3,none⟩=some (.string ⟨#[]⟩)∧W.cell? ⟨d,4,none⟩=some (.slice a 2 c)∧W.cell? ⟨d,5,none⟩=some (.slice a' 2 c')∧Open (w.heap.size+1) W4 W)) (with_reducible (repeat (first|assumption|refine hA4 _ _ ?_|refine hT4 _ _ _ ?_))) (first
   | (go_at_call 31;(with_reducible refine (cT _ ?_).mono ?_);(with_reducible assumption);rintro e wt ⟨rfl,hSt⟩)
   | (go_at_call 50;(with_reducible refine (cR4 _ _ ?_ ?_).mono ?_);(with_reducible (repeat (first|assumption|refine hA4 _ _ ?_)));(exact heap_alloc_new _ _);rintro e wz ⟨b1,b2,b3,b4,y0,y1,y2,y3,y4,y5,rfl,hv,k0,k1,k2,k3,k4,k5,kf,hh,hSz⟩))
  obtain ⟨HP1,HMB,HV4⟩:=ret6 hh.out (hSz.2.2.2.2.2.2.2.below HB4.out (Nat.le_succ _) HB4.out.size) (Nat.le_succ _) hv.out (fun b hb=>by omega)
  have HVE:=Lib.hid (ValIn.later (R':=fun b=>w.heap.size≤b) (fun _ _ _=>rfl) (fun b hb=>by omega) _ _ _ HV4.out)
  clear hA4 hT4 cT cR4 hS4 p4 d0 d1 d2 d3 d4 d5
  go_wp2_with fail
  (try simp only [Exit.inBlock,Exit.then])
  refine bodyPost_ret (v:=.agg #[.int .i64 5,.bool false,.int .i64 0,.string ⟨#[]⟩,.slice b1 2 b2,.slice b3 2 b4]) (results_cell_row rfl _ _ (w.heap.size+1) 36 #[.int .i64 5,.bool false,.int .i64 0,.string ⟨#[]⟩,.slice b1 2 b2,.slice b3 2 b4] (0,0) _ (by rfl) HP1.out Tryz.underlying36 rfl (by kernel_rfl)) rfl ?_
  exact ⟨HMB.out,.slice b1 2 b2,.slice b3 2 b4,rfl,HVE.out⟩
theorem change_any (e:EditP) (w:World) :
  Calls Tryz.prog 91 #[.agg #[.int .i64 e.frm.line,.int .i64 e.frm.unit,.int .i64 e.til.line,.int .i64 e.til.unit,.string ⟨e.text.toArray⟩,.bool e.whole]] w fun r w'=>Below w.heap.size w w'∧∃ lv kv,r=.returned (arg (editV e) lv kv)∧ValIn w' (fun b=>w.heap.size≤b) (editV e) lv kv:=by
 obtain ⟨⟨fl,fu⟩,⟨tl,tu⟩,t,wh⟩:=e
 cases wh with
 | true=>exact change_whole t fl fu tl tu w
 | false=>exact change_range t fl fu tl tu w
end Go.Proofs.YtpbnhnilfpoljaaGreatDoor.M
