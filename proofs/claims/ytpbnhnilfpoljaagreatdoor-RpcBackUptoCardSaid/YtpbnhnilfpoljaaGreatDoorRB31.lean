/- What the claim needs of the texts MRead10, MEq1, MEq2. -/
import Derived.Test.YtpbnhnilfpoljaaGreatDoorRB30
import Derived.Laws.StructEq
namespace Go.Proofs.YtpbnhnilfpoljaaGreatDoor.M
open Go.RowKit
open Go.Lib Go.Proofs.YtpbnhnilfpoljaaGreatDoor.V
def ReadP (v:Val) (w:World) (e:Ending) (w':World):Prop :=
 Below w.heap.size w w'∧∃ il ik ch ol ok,e=.returned (.tuple #[argC (readW v).1 il ik ch ol ok,.int .i64 (readW v).2])∧CallIn w' (fun g=>w.heap.size≤g) (readW v).1 il ik ch ol ok
theorem build_none (W:World):(Instr.build 43 #[]).run Tryz.prog W=.ok (.agg #[.int .i64 0,.int .i64 0,.bool false,.int .i64 0,.string ⟨#[]⟩,.slice none 0 0,.slice none 0 0,.string ⟨#[]⟩,.int .i64 0,.string ⟨#[]⟩,.slice none 0 0,.int .i64 0,.int .i64 0,.int .i64 0,.bool false,.int .i64 0,.string ⟨#[]⟩,.slice none 0 0,.slice none 0 0]) W:=by kernel_rfl
theorem build_id (iso inn:Int) (ion:Bool) (itx:ByteArray) (i1 i3:Option Addr) (im1 i2 im2 i4:Nat) (W:World):(Instr.build 43 #[(1,.agg #[.int .i64 iso,.bool ion,.int .i64 inn,.string itx,.slice i1 im1 i2,.slice i3 im2 i4])]).run Tryz.prog W=.ok (.agg #[.int .i64 0,.int .i64 iso,.bool ion,.int .i64 inn,.string itx,.slice i1 im1 i2,.slice i3 im2 i4,.string ⟨#[]⟩,.int .i64 0,.string ⟨#[]⟩,.slice none 0 0,.int .i64 0,.int .i64 0,.int .i64 0,.bool false,.int .i64 0,.string ⟨#[]⟩,.slice none 0 0,.slice none 0 0]) W:=by kernel_rfl
theorem build_kid (k iso inn:Int) (ion:Bool) (itx:ByteArray) (i1 i3:Option Addr) (im1 i2 im2 i4:Nat) (W:World):(Instr.build 43 #[(0,.int .i64 k),(1,.agg #[.int .i64 iso,.bool ion,.int .i64 inn,.string itx,.slice i1 im1 i2,.slice i3 im2 i4])]).run Tryz.prog W=.ok (.agg #[.int .i64 k,.int .i64 iso,.bool ion,.int .i64 inn,.string itx,.slice i1 im1 i2,.slice i3 im2 i4,.string ⟨#[]⟩,.int .i64 0,.string ⟨#[]⟩,.slice none 0 0,.int .i64 0,.int .i64 0,.int .i64 0,.bool false,.int .i64 0,.string ⟨#[]⟩,.slice none 0 0,.slice none 0 0]) W:=by kernel_rfl
set_option maxHeartbeats 16000000 in
set_option maxRecDepth 20000 in
theorem read_any (v:Val) (lv kv:Value) (R:Nat→Prop) (w:World) (hv0:ValIn w R v lv kv) (hw:wt v≤65536) (hE:EnvW w) (hM:MTab w) :
  Calls Tryz.prog 14 #[arg v lv kv] w (ReadP v w):=by
 have hv:ValIn w (fun g=>g<w.heap.size) v lv kv:=(ValIn.bound _ _ _ hv0).later (fun _ _ _=>rfl) (fun _ h=>h.2) _ _ _
 have cM:=fun W (hb:Below w.heap.size w W)=>(message_any v lv kv _ W (val_below hv hb) hw (hE.later hb)).mono (fun e w' h=>msg_form h)
 have hv':=hv
 unfold ReadP
 generalize hA:readW v=A at cM ⊢
 clear hA
 obtain ⟨so,on,n,t,l,ks⟩:=v
 obtain ⟨⟨a1,c1,rfl,_⟩,⟨a2,c2,rfl,_⟩⟩:=hv'
 simp only [arg,six',six,strCell] at cM ⊢
 generalize wt (.mk so on n t l ks)=wv at cM hw
 clear hv0 hv hE
 generalize l.length=m1 at cM ⊢
 generalize ks.length=m2 at cM ⊢
 obtain ⟨h1,h2,h3,h4⟩:=two w (.cells #[.int .i64 so,.bool on,.int .i64 n,.string ⟨t.toArray⟩,.slice a1 m1 c1,.slice a2 m2 c2] 36) (.cells #[.int .i64 0,.int .i64 0,.bool false,.int .i64 0,.string ⟨#[]⟩,.slice none 0 0,.slice none 0 0,.string ⟨#[]⟩,.int .i64 0,.string ⟨#[]⟩,.slice none 0 0,.int .i64 0,.int .i64 0,.int .i64 0,.bool false,.int .i64 0,.string ⟨#[]⟩,.slice none 0 0,.slice none 0 0] 43)
 obtain ⟨W2,hW2⟩:∃ W2,(w.alloc (.cells #[.int .i64 so,.bool on,.int .i64 n,.string ⟨t.toArray⟩,.slice a1 m1 c1,.slice a2 m2 c2] 36)).alloc (.cells #[.int .i64 0,.int .i64 0,.bool false,.int .i64 0,.string ⟨#[]⟩,.slice none 0 0,.slice none 0 0,.string ⟨#[]⟩,.int .i64 0,.string ⟨#[]⟩,.slice none 0 0,.int .i64 0,.int .i64 0,.int .i64 0,.bool false,.int .i64 0,.string ⟨#[]⟩,.slice none 0 0,.slice none 0 0] 43)=W2:=⟨_,rfl⟩
 rw [hW2] at h1 h2 h3 h4
 obtain ⟨⟨q0,q1,q2,q3,q4,q5⟩,qf⟩:=cells_six h1
 have hz2:w.heap.size+2≤W2.heap.size:=by omega
 have CM:=Lib.hid (cM W2 h3)
 have HB2:=Lib.hid h3
 have HM2:=Lib.hid (hM.later (h3.mono (Nat.le_refl _)))
 have HR2:=Lib.hid (show Cs (w.heap.size+1) zeroC W2 from h2)
 clear h1 h2 h3 h4 cM hM
 go_enter Tryz.func14,Tryz.ntmps14
 go_wp2_with fail
 refine CM.out.mono ?_
 rintro e w3 ⟨nm,iv,pv,ask,okm,il,ik,pl,pk,rfl,hi3,hp3,hb3,hwp,hA⟩
 have hz3:=hb3.size
 obtain ⟨iso,ion,inn,itx,ilst,iks⟩:=iv
 obtain ⟨pso,pon,pnn,ptx,plst,pks⟩:=pv
 have hi3':=hi3
 have hp3':=hp3
 obtain ⟨⟨i1,i2,rfl,_⟩,⟨i3,i4,rfl,_⟩⟩:=hi3'
 obtain ⟨⟨p1,p2,rfl,_⟩,⟨p3,p4,rfl,_⟩⟩:=hp3'
 have HA:=Lib.hid hA
 have HM3:=Lib.hid (HM2.out.later hb3)
 have HR3:=Lib.hid (show Cs (w.heap.size+1) zeroC w3 from (hb3.block _ (by omega)).trans HR2.out)
 have HB3:=Lib.hid (HB2.out.trans (hb3.mono HB2.out.size))
 simp only [List.cons_append,List.nil_append]
 obtain ⟨im1,hm1⟩:∃ m,ilst.length=m:=⟨_,rfl⟩
 obtain ⟨im2,hm2⟩:∃ m,iks.length=m:=⟨_,rfl⟩
 obtain ⟨pm1,hm3⟩:∃ m,plst.length=m:=⟨_,rfl⟩
 obtain ⟨pm2,hm4⟩:∃ m,pks.length=m:=⟨_,rfl⟩
 rw [hm1,hm2] at hi3
 rw [hm3,hm4] at hp3
 simp only [hm1,hm2,hm3,hm4]
 clear hm1 hm2 hm3 hm4
 have HI3:=Lib.hid hi3
 have HP3:=Lib.hid hp3
 obtain ⟨W4,hW4⟩:∃ W4,w3.alloc (.cells #[.string ⟨nm.toArray⟩,.int .i64 iso,.bool ion,.int .i64 inn,.string ⟨itx.toArray⟩,.slice i1 im1 i2,.slice i3 im2 i4,.int .i64 pso,.bool pon,.int .i64 pnn,.string ⟨ptx.toArray⟩,.slice p1 pm1 p2,.slice p3 pm2 p4,.bool ask] 90)=W4:=⟨_,rfl⟩
 have hb4:Below w3.heap.size w3 W4:=by rw [← hW4];exact (Below.refl _ _).alloc (Nat.le_refl _) _
 have HG4:=Lib.hid (show W4.heap[w3.heap.size]?=some (.cells #[.string ⟨nm.toArray⟩,.int .i64 iso,.bool ion,.int .i64 inn,.string ⟨itx.toArray⟩,.slice i1 im1 i2,.slice i3 im2 i4,.int .i64 pso,.bool pon,.int .i64 pnn,.string ⟨ptx.toArray⟩,.slice p1 pm1 p2,.slice p3 pm2 p4,.bool ask] 90 (0,0)) by rw [← hW4];exact heap_alloc_new _ _)
 have HM4:=Lib.hid (HM3.out.later hb4)
 have HR4:=Lib.hid (HR3.out.below hb4)
 have HB4:=Lib.hid (HB3.out.trans (hb4.mono (by omega)))
 have HI4:=Lib.hid (val_below HI3.out hb4)
 have HP4:=Lib.hid (val_below HP3.out hb4)
 have hz4:w3.heap.size<W4.heap.size:=by rw [← hW4];simp
 clear CM HB2 HM2 HR2 hb3 hb4 HM3 HR3 HB3 HI3 HP3 hi3 hp3 hA q0 q1 q2 q3 q4 q5 qf hW2
 obtain ⟨g,hg⟩:∃ g,w3.heap.size=g:=⟨_,rfl⟩
 rw [hg] at HG4 hz4 hz3
 go_upto_region 2 with fail
 (try rw [hW4])
 clear hW4
 obtain ⟨r,hr⟩:∃ r,w.heap.size+1=r:=⟨_,rfl⟩
 rw [hr] at HR4
 have hrw:w.heap.size≤r:=by omega
 have hrl:r<W2.heap.size:=by omega
 cases okm with
 | false =>
  have hA':=HA.out
  rw [if_neg (by decide)] at hA'
  have HNA:=Lib.hid hA'
  have HR:=HR4
  have HB:=HB4
  have hb0:=build_none
  obtain ⟨V,hV⟩:∃ V,Value.agg #[.int .i64 0,.int .i64 0,.bool false,.int .i64 0,.string ⟨#[]⟩,.slice none 0 0,.slice none 0 0,.string ⟨#[]⟩,.int .i64 0,.string ⟨#[]⟩,.slice none 0 0,.int .i64 0,.int .i64 0,.int .i64 0,.bool false,.int .i64 0,.string ⟨#[]⟩,.slice none 0 0,.slice none 0 0]=V:=⟨_,rfl⟩
  simp only [hV] at hb0
  clear hA' HA
  go_upto_region 3 with fail
  (try rw [hr])
  clear hr
  iterate 1 go_step
  refine wpList_buildV rfl 43 [] rfl V (hb0 _) ?_
  refine wpList_storeV rfl rfl 43 (.tmp 2) (.tmp 15) rfl _ (store_as hV HR.out rfl rfl (by kernel_rfl)) ?_
  have hF:Cs r #[.int .i64 0,.int .i64 0,.bool false,.int .i64 0,.string ⟨#[]⟩,.slice none 0 0,.slice none 0 0,.string ⟨#[]⟩,.int .i64 0,.string ⟨#[]⟩,.slice none 0 0,.int .i64 0,.int .i64 0,.int .i64 0,.bool false,.int .i64 0,.string ⟨#[]⟩,.slice none 0 0,.slice none 0 0] (W4.setRow r #[.int .i64 0,.int .i64 0,.bool false,.int .i64 0,.string ⟨#[]⟩,.slice none 0 0,.slice none 0 0,.string ⟨#[]⟩,.int .i64 0,.string ⟨#[]⟩,.slice none 0 0,.int .i64 0,.int .i64 0,.int .i64 0,.bool false,.int .i64 0,.string ⟨#[]⟩,.slice none 0 0,.slice none 0 0]):=HR.out.row _
  have hBF:Below w.heap.size w (W4.setRow r #[.int .i64 0,.int .i64 0,.bool false,.int .i64 0,.string ⟨#[]⟩,.slice none 0 0,.slice none 0 0,.string ⟨#[]⟩,.int .i64 0,.string ⟨#[]⟩,.slice none 0 0,.int .i64 0,.int .i64 0,.int .i64 0,.bool false,.int .i64 0,.string ⟨#[]⟩,.slice none 0 0,.slice none 0 0]):=Below.setRow' HB.out hrw _
  have hfar:∀ k,k≠r→(W4.setRow r #[.int .i64 0,.int .i64 0,.bool false,.int .i64 0,.string ⟨#[]⟩,.slice none 0 0,.slice none 0 0,.string ⟨#[]⟩,.int .i64 0,.string ⟨#[]⟩,.slice none 0 0,.int .i64 0,.int .i64 0,.int .i64 0,.bool false,.int .i64 0,.string ⟨#[]⟩,.slice none 0 0,.slice none 0 0]).heap[k]?=W4.heap[k]?:=fun k hk=>setRow_other _ _ _ _ hk
  obtain ⟨WF,hWF⟩:∃ WF,W4.setRow r #[.int .i64 0,.int .i64 0,.bool false,.int .i64 0,.string ⟨#[]⟩,.slice none 0 0,.slice none 0 0,.string ⟨#[]⟩,.int .i64 0,.string ⟨#[]⟩,.slice none 0 0,.int .i64 0,.int .i64 0,.int .i64 0,.bool false,.int .i64 0,.string ⟨#[]⟩,.slice none 0 0,.slice none 0 0]=WF:=⟨_,rfl⟩
  rw [hWF] at hF hBF hfar ⊢
  have HF:=Lib.hid hF
  have HBF:=Lib.hid hBF
  have HFar:=Lib.hid hfar
  clear hF hBF hWF hfar
  go_wp2_with fail
  refine bodyPost_ret (v:=.tuple #[.agg #[.int .i64 0,.int .i64 0,.bool false,.int .i64 0,.string ⟨#[]⟩,.slice none 0 0,.slice none 0 0,.string ⟨#[]⟩,.int .i64 0,.string ⟨#[]⟩,.slice none 0 0,.int .i64 0,.int .i64 0,.int .i64 0,.bool false,.int .i64 0,.string ⟨#[]⟩,.slice none 0 0,.slice none 0 0],.int .i64 42]) ((results_call (fn:=Tryz.f14) (p:=2) (u:=3) (by rfl) (by rfl) HF.out rfl).trans rfl) rfl ?_
  rw [HNA.out]
  exact ⟨HBF.out,.slice none 0 0,.slice none 0 0,.slice none 0 0,.slice none 0 0,.slice none 0 0,rfl,leaf_in _ _ _ _ _ _,edits_nil _ _,leaf_in _ _ _ _ _ _⟩
 | true =>
  have m0:W4.cell? ⟨g,0,none⟩=some (.string ⟨nm.toArray⟩):=by unfold World.cell?;rw [HG4.out];rfl
  have CN:=Lib.hid (named_any nm W4 HM4.out)
  go_wp2_with fail
  refine CN.out.mono ?_
  rintro e w5 ⟨rfl,hb5⟩
  have hz5:=hb5.size
  have hkr:=mK_range nm
  have hA':=HA.out
  simp only [↓reduceIte] at hA'
  unfold tellsP at hA'
  clear HA CN m0
  simp only [methC]
  generalize mK nm=k at hkr hA' ⊢
  obtain ⟨rq,hrq⟩:∃ rq,reqP k=rq:=⟨_,rfl⟩
  have HRQ:=Lib.hid hrq
  rw [hrq] at hA' ⊢
  have HT:=Lib.hid hA'
  clear hrq hA'
  obtain ⟨q,hq⟩:∃ q,w5.heap.size=q:=⟨_,rfl⟩
  obtain ⟨W6,hW6⟩:∃ W6,w5.alloc (.cells #[.int .i64 k,.string ⟨(methodP k).toArray⟩,.bool rq,.bool (toldK k)] 73)=W6:=⟨_,rfl⟩
  have hb6:Below w5.heap.size w5 W6:=by rw [← hW6];exact (Below.refl _ _).alloc (Nat.le_refl _) _
  have hb46:Below W4.heap.size W4 W6:=hb5.trans (hb6.mono hz5)
  have HQ:=Lib.hid (show W6.heap[q]?=some (.cells #[.int .i64 k,.string ⟨(methodP k).toArray⟩,.bool rq,.bool (toldK k)] 73 (0,0)) by rw [← hW6,← hq];exact heap_alloc_new _ _)
  have HG:=Lib.hid ((hb46.block g hz4).trans HG4.out)
  have HR:=Lib.hid (HR4.out.below hb46)
  have HB:=Lib.hid (HB4.out.trans (hb46.mono HB4.out.size))
  have HI:=Lib.hid (val_below HI4.out hb46)
  have HP:=Lib.hid (val_below HP4.out hb46)
  have hz6:q<W6.heap.size:=by rw [← hW6,← hq];simp
  clear HG4 HM4 HR4 HB4 HI4 HP4 hb5 hb6 hb46
  go_upto_region 5 with fail
  (try rw [hW6])
  (try rw [hr])
  clear hW6 hr
  have m0:W6.cell? ⟨q,0,none⟩=some (.int .i64 k):=by unfold World.cell?;rw [HQ.out];rfl
  have m2:W6.cell? ⟨q,2,none⟩=some (.bool rq):=by unfold World.cell?;rw [HQ.out];rfl
  have g13:W6.cell? ⟨g,13,none⟩=some (.bool ask):=by unfold World.cell?;rw [HG.out];rfl
  have hgc:∀ i c,(#[.string ⟨nm.toArray⟩,.int .i64 iso,.bool ion,.int .i64 inn,.string ⟨itx.toArray⟩,.slice i1 im1 i2,.slice i3 im2 i4,.int .i64 pso,.bool pon,.int .i64 pnn,.string ⟨ptx.toArray⟩,.slice p1 pm1 p2,.slice p3 pm2 p4,.bool ask]:Array Value)[i]?=some c→W6.cell? ⟨g,i,none⟩=some c:=fun i c h=>by unfold World.cell?;rw [HG.out];exact h
  have HGC:=Lib.hid hgc
  clear hgc
  have HNO:Hid (¬ (k≠0∧rq=ask)→A=(call0 0 (.mk iso ion inn itx ilst iks),43)):=Lib.hid (fun h=>by rw [HT.out,if_neg h])
  by_cases hk0:k=0
  ·have hkb:(k==(0:Int))=true:=by rw [hk0];rfl
   have hno:=HNO.out (fun h=>h.1 hk0)
   have HNA:=Lib.hid hno
   clear hno HNO HT hk0 hkr
   go_upto_region 6 with fail
   have hb1:=build_id iso inn ion ⟨itx.toArray⟩ i1 i3 im1 i2 im2 i4
   obtain ⟨V,hV⟩:∃ V,Value.agg #[.int .i64 0,.int .i64 iso,.bool ion,.int .i64 inn,.string ⟨itx.toArray⟩,.slice i1 im1 i2,.slice i3 im2 i4,.string ⟨#[]⟩,.int .i64 0,.string ⟨#[]⟩,.slice none 0 0,.int .i64 0,.int .i64 0,.int .i64 0,.bool false,.int .i64 0,.string ⟨#[]⟩,.slice none 0 0,.slice none 0 0]=V:=⟨_,rfl⟩
   simp only [hV] at hb1
   have g1:=HGC.out 1 _ rfl
   have g2:=HGC.out 2 _ rfl
   have g3:=HGC.out 3 _ rfl
   have g4:=HGC.out 4 _ rfl
   have g5:=HGC.out 5 _ rfl
   have g6:=HGC.out 6 _ rfl
   iterate 7 go_step
   refine wpList_buildV rfl 43 [(1,.tmp 30)] rfl V (hb1 _) ?_
   refine wpList_storeV rfl rfl 43 (.tmp 2) (.tmp 31) rfl _ (store_as hV HR.out rfl rfl (by kernel_rfl)) ?_
   have hF:Cs r #[.int .i64 0,.int .i64 iso,.bool ion,.int .i64 inn,.string ⟨itx.toArray⟩,.slice i1 im1 i2,.slice i3 im2 i4,.string ⟨#[]⟩,.int .i64 0,.string ⟨#[]⟩,.slice none 0 0,.int .i64 0,.int .i64 0,.int .i64 0,.bool false,.int .i64 0,.string ⟨#[]⟩,.slice none 0 0,.slice none 0 0] (W6.setRow r #[.int .i64 0,.int .i64 iso,.bool ion,.int .i64 inn,.string ⟨itx.toArray⟩,.slice i1 im1 i2,.slice i3 im2 i4,.string ⟨#[]⟩,.int .i64 0,.string ⟨#[]⟩,.slice none 0 0,.int .i64 0,.int .i64 0,.int .i64 0,.bool false,.int .i64 0,.string ⟨#[]⟩,.slice none 0 0,.slice none 0 0]):=HR.out.row _
   have hBF:Below w.heap.size w (W6.setRow r #[.int .i64 0,.int .i64 iso,.bool ion,.int .i64 inn,.string ⟨itx.toArray⟩,.slice i1 im1 i2,.slice i3 im2 i4,.string ⟨#[]⟩,.int .i64 0,.string ⟨#[]⟩,.slice none 0 0,.int .i64 0,.int .i64 0,.int .i64 0,.bool false,.int .i64 0,.string ⟨#[]⟩,.slice none 0 0,.slice none 0 0]):=Below.setRow' HB.out hrw _
   have hfar:∀ k,k≠r→(W6.setRow r #[.int .i64 0,.int .i64 iso,.bool ion,.int .i64 inn,.string ⟨itx.toArray⟩,.slice i1 im1 i2,.slice i3 im2 i4,.string ⟨#[]⟩,.int .i64 0,.string ⟨#[]⟩,.slice none 0 0,.int .i64 0,.int .i64 0,.int .i64 0,.bool false,.int .i64 0,.string ⟨#[]⟩,.slice none 0 0,.slice none 0 0]).heap[k]?=W6.heap[k]?:=fun k hk=>setRow_other _ _ _ _ hk
   obtain ⟨WF,hWF⟩:∃ WF,W6.setRow r #[.int .i64 0,.int .i64 iso,.bool ion,.int .i64 inn,.string ⟨itx.toArray⟩,.slice i1 im1 i2,.slice i3 im2 i4,.string ⟨#[]⟩,.int .i64 0,.string ⟨#[]⟩,.slice none 0 0,.int .i64 0,.int .i64 0,.int .i64 0,.bool false,.int .i64 0,.string ⟨#[]⟩,.slice none 0 0,.slice none 0 0]=WF:=⟨_,rfl⟩
   rw [hWF] at hF hBF hfar ⊢
   have HF:=Lib.hid hF
   have HBF:=Lib.hid hBF
   have HFar:=Lib.hid hfar
   clear hF hBF hWF hfar
   go_wp2_with fail
   refine bodyPost_ret (v:=.tuple #[.agg #[.int .i64 0,.int .i64 iso,.bool ion,.int .i64 inn,.string ⟨itx.toArray⟩,.slice i1 im1 i2,.slice i3 im2 i4,.string ⟨#[]⟩,.int .i64 0,.string ⟨#[]⟩,.slice none 0 0,.int .i64 0,.int .i64 0,.int .i64 0,.bool false,.int .i64 0,.string ⟨#[]⟩,.slice none 0 0,.slice none 0 0],.int .i64 43]) ((results_call (fn:=Tryz.f14) (p:=2) (u:=3) (by rfl) (by rfl) HF.out rfl).trans rfl) rfl ?_
   rw [HNA.out]
   exact ⟨HBF.out,.slice i1 im1 i2,.slice i3 im2 i4,.slice none 0 0,.slice none 0 0,.slice none 0 0,rfl,ValIn.later (fun k hk _=>HFar.out k (by omega)) (fun k hk=>by omega) _ _ _ HI.out,edits_nil _ _,leaf_in _ _ _ _ _ _⟩
  ·have hkb:(k==(0:Int))=false:=beq_eq_false_iff_ne.2 hk0
   by_cases hra:rq=ask
   ·subst hra
    have hT':=HT.out
    rw [if_pos ⟨hk0,rfl⟩,params_id k (.mk iso ion inn itx ilst iks)] at hT'
    have CC:=call_any k (by omega) hkr.2 (.mk pso pon pnn ptx plst pks) _ _ _ W6 HP.out (by omega)
    unfold CallsP at CC
    simp only [methC,HRQ.out,arg,six',six,strCell] at CC
    have hcid:(paramsP k zV (.mk pso pon pnn ptx plst pks)).id=zV:=by rw [params_id]
    have hck:(paramsP k zV (.mk pso pon pnn ptx plst pks)).kind=k:=by unfold paramsP call0;split <;> (try split) <;> first|rfl|(simp only [];omega)
    generalize paramsP k zV (.mk pso pon pnn ptx plst pks)=c at CC hT' hcid hck
    generalize paramsOk k (.mk pso pon pnn ptx plst pks)=okc at CC hT'
    have HT2:=Lib.hid hT'
    obtain ⟨ck,cid,cname,cver,ctext,cch,⟨cpl,cpu⟩,⟨oso,oon,onn,otx,olst,oks⟩⟩:=c
    simp only at hcid hck
    subst hcid
    subst hck
    simp only [argC,callC,zV,six',six,strCell,List.cons_append,List.nil_append] at CC
    have CCH:=Lib.hid CC
    clear CC hT' HT HNO
    have m1:W6.cell? ⟨q,1,none⟩=some (.string ⟨(methodP ck).toArray⟩):=by unfold World.cell?;rw [HQ.out];rfl
    have m3:W6.cell? ⟨q,3,none⟩=some (.bool (toldK ck)):=by unfold World.cell?;rw [HQ.out];rfl
    have g7:=HGC.out 7 _ rfl
    have g8:=HGC.out 8 _ rfl
    have g9:=HGC.out 9 _ rfl
    have g10:=HGC.out 10 _ rfl
    have g11:=HGC.out 11 _ rfl
    have g12:=HGC.out 12 _ rfl
    go_wp2_with fail
    refine CCH.out.mono ?_
    rintro e w9 ⟨hb9,chv,olv,okv,rfl,hc9⟩
    have hz9:=hb9.size
    have hoo:=hc9.other
    have hee:=hc9.edits
    obtain ⟨⟨o1,o2,rfl,_⟩,⟨o3,o4,rfl,_⟩⟩:=hoo
    obtain ⟨ca,cc,rfl,_⟩:=hee
    clear CCH m1 m2 m3 m0 g13 g7 g8 g9 g10 g11 g12
    obtain ⟨V,hV⟩:∃ V,Value.agg #[.int .i64 ck,.int .i64 0,.bool false,.int .i64 0,.string ⟨#[]⟩,.slice none 0 0,.slice none 0 0,.string ⟨cname.toArray⟩,.int .i64 cver,.string ⟨ctext.toArray⟩,.slice ca cch.length cc,.int .i64 cpl,.int .i64 cpu,.int .i64 oso,.bool oon,.int .i64 onn,.string ⟨otx.toArray⟩,.slice o1 olst.length o2,.slice o3 oks.length o4]=V:=⟨_,rfl⟩
    simp only [hV]
    iterate 13 go_step
    refine wpList_storeV rfl rfl 43 (.tmp 7) (.tmp 37) rfl _ (store_as hV (heap_alloc_new _ _) rfl rfl (by kernel_rfl)) ?_
    obtain ⟨u,hu⟩:∃ u,w9.heap.size=u:=⟨_,rfl⟩
    obtain ⟨W10,hW10⟩:∃ W10,(w9.alloc (.cells #[.int .i64 0,.int .i64 0,.bool false,.int .i64 0,.string ⟨#[]⟩,.slice none 0 0,.slice none 0 0,.string ⟨#[]⟩,.int .i64 0,.string ⟨#[]⟩,.slice none 0 0,.int .i64 0,.int .i64 0,.int .i64 0,.bool false,.int .i64 0,.string ⟨#[]⟩,.slice none 0 0,.slice none 0 0] 43)).setRow w9.heap.size #[.int .i64 ck,.int .i64 0,.bool false,.int .i64 0,.string ⟨#[]⟩,.slice none 0 0,.slice none 0 0,.string ⟨cname.toArray⟩,.int .i64 cver,.string ⟨ctext.toArray⟩,.slice ca cch.length cc,.int .i64 cpl,.int .i64 cpu,.int .i64 oso,.bool oon,.int .i64 onn,.string ⟨otx.toArray⟩,.slice o1 olst.length o2,.slice o3 oks.length o4]=W10:=⟨_,rfl⟩
    have hb10:Below w9.heap.size w9 W10:=by rw [← hW10];exact Below.setRow' ((Below.refl _ _).alloc (Nat.le_refl _) _) (Nat.le_refl _) _
    have hb610:Below W6.heap.size W6 W10:=hb9.trans (hb10.mono hz9)
    have HU:=Lib.hid (show Cs u #[.int .i64 ck,.int .i64 0,.bool false,.int .i64 0,.string ⟨#[]⟩,.slice none 0 0,.slice none 0 0,.string ⟨cname.toArray⟩,.int .i64 cver,.string ⟨ctext.toArray⟩,.slice ca cch.length cc,.int .i64 cpl,.int .i64 cpu,.int .i64 oso,.bool oon,.int .i64 onn,.string ⟨otx.toArray⟩,.slice o1 olst.length o2,.slice o3 oks.length o4] W10 by rw [← hW10,← hu];exact Cs.row (old:=zeroC) (heap_alloc_new _ _) _)
    have HR2:=Lib.hid (HR.out.below hb610)
    have HB2:=Lib.hid (HB.out.trans (hb610.mono HB.out.size))
    have HI2:=Lib.hid (ValIn.later (R':=fun k=>W2.heap.size≤k∧k<u) (fun k hk hlt=>hb610.block k hlt) (fun k hk=>by omega) _ _ _ (ValIn.bound _ _ _ HI.out))
    have HE2:=Lib.hid (show EditsIn W10 (fun k=>W6.heap.size≤k∧k<u) cch (.slice ca cch.length cc) from EditsIn.later (R:=fun k=>W6.heap.size≤k∧k<w9.heap.size) hc9.edits.bound (fun k hk hlt=>hb10.block k hlt) (fun k hk=>by omega))
    have HO2:=Lib.hid (show ValIn W10 (fun k=>W6.heap.size≤k∧k<u) (.mk oso oon onn otx olst oks) (.slice o1 olst.length o2) (.slice o3 oks.length o4) from ValIn.later (R:=fun k=>W6.heap.size≤k∧k<w9.heap.size) (fun k hk hlt=>hb10.block k hlt) (fun k hk=>by omega) _ _ _ (ValIn.bound _ _ _ hc9.other))
    have hgc2:∀ i c,(#[.string ⟨nm.toArray⟩,.int .i64 iso,.bool ion,.int .i64 inn,.string ⟨itx.toArray⟩,.slice i1 im1 i2,.slice i3 im2 i4,.int .i64 pso,.bool pon,.int .i64 pnn,.string ⟨ptx.toArray⟩,.slice p1 pm1 p2,.slice p3 pm2 p4,.bool rq]:Array Value)[i]?=some c→W10.cell? ⟨g,i,none⟩=some c:=fun i c h=>by unfold World.cell?;rw [hb610.block g (by omega),HG.out];exact h
    have m0':W10.cell? ⟨q,0,none⟩=some (.int .i64 ck):=by unfold World.cell?;rw [hb610.block q hz6,HQ.out];rfl
    have HGC2:=Lib.hid hgc2
    have hu10:=HU.out.lt
    clear HR HB HI HG HGC HP HQ hgc2 hb10 hb610 hb9 hc9
    have HR:=HR2
    have HB:=HB2
    have HI:=HI2
    have HGC:=HGC2
    clear HR2 HB2 HI2 HGC2
    go_upto_region 8 with fail
    (try rw [hW10])
    (try rw [hu])
    clear hW10 hV
    have hru:r≠u:=by omega
    cases okc with
    | false =>
     have hA':=HT2.out
     simp only [Bool.false_eq_true,↓reduceIte] at hA'
     have HNA:=Lib.hid hA'
     clear hA' HT2
     go_upto_region 9 with fail
     have hb1:=build_kid ck iso inn ion ⟨itx.toArray⟩ i1 i3 im1 i2 im2 i4
     obtain ⟨V,hV⟩:∃ V,Value.agg #[.int .i64 ck,.int .i64 iso,.bool ion,.int .i64 inn,.string ⟨itx.toArray⟩,.slice i1 im1 i2,.slice i3 im2 i4,.string ⟨#[]⟩,.int .i64 0,.string ⟨#[]⟩,.slice none 0 0,.int .i64 0,.int .i64 0,.int .i64 0,.bool false,.int .i64 0,.string ⟨#[]⟩,.slice none 0 0,.slice none 0 0]=V:=⟨_,rfl⟩
     simp only [hV] at hb1
     have g1:=HGC.out 1 _ rfl
     have g2:=HGC.out 2 _ rfl
     have g3:=HGC.out 3 _ rfl
     have g4:=HGC.out 4 _ rfl
     have g5:=HGC.out 5 _ rfl
     have g6:=HGC.out 6 _ rfl
     iterate 13 go_step
     refine wpList_buildV rfl 43 [(0,.tmp 42),(1,.tmp 44)] rfl V (hb1 _) ?_
     refine wpList_storeV rfl rfl 43 (.tmp 2) (.tmp 45) rfl _ (store_as hV HR.out rfl rfl (by kernel_rfl)) ?_
     have hF:Cs r #[.int .i64 ck,.int .i64 iso,.bool ion,.int .i64 inn,.string ⟨itx.toArray⟩,.slice i1 im1 i2,.slice i3 im2 i4,.string ⟨#[]⟩,.int .i64 0,.string ⟨#[]⟩,.slice none 0 0,.int .i64 0,.int .i64 0,.int .i64 0,.bool false,.int .i64 0,.string ⟨#[]⟩,.slice none 0 0,.slice none 0 0] (W10.setRow r #[.int .i64 ck,.int .i64 iso,.bool ion,.int .i64 inn,.string ⟨itx.toArray⟩,.slice i1 im1 i2,.slice i3 im2 i4,.string ⟨#[]⟩,.int .i64 0,.string ⟨#[]⟩,.slice none 0 0,.int .i64 0,.int .i64 0,.int .i64 0,.bool false,.int .i64 0,.string ⟨#[]⟩,.slice none 0 0,.slice none 0 0]):=HR.out.row _
     have hBF:Below w.heap.size w (W10.setRow r #[.int .i64 ck,.int .i64 iso,.bool ion,.int .i64 inn,.string ⟨itx.toArray⟩,.slice i1 im1 i2,.slice i3 im2 i4,.string ⟨#[]⟩,.int .i64 0,.string ⟨#[]⟩,.slice none 0 0,.int .i64 0,.int .i64 0,.int .i64 0,.bool false,.int .i64 0,.string ⟨#[]⟩,.slice none 0 0,.slice none 0 0]):=Below.setRow' HB.out hrw _
     have hfar:∀ k,k≠r→(W10.setRow r #[.int .i64 ck,.int .i64 iso,.bool ion,.int .i64 inn,.string ⟨itx.toArray⟩,.slice i1 im1 i2,.slice i3 im2 i4,.string ⟨#[]⟩,.int .i64 0,.string ⟨#[]⟩,.slice none 0 0,.int .i64 0,.int .i64 0,.int .i64 0,.bool false,.int .i64 0,.string ⟨#[]⟩,.slice none 0 0,.slice none 0 0]).heap[k]?=W10.heap[k]?:=fun k hk=>setRow_other _ _ _ _ hk
     obtain ⟨WF,hWF⟩:∃ WF,W10.setRow r #[.int .i64 ck,.int .i64 iso,.bool ion,.int .i64 inn,.string ⟨itx.toArray⟩,.slice i1 im1 i2,.slice i3 im2 i4,.string ⟨#[]⟩,.int .i64 0,.string ⟨#[]⟩,.slice none 0 0,.int .i64 0,.int .i64 0,.int .i64 0,.bool false,.int .i64 0,.string ⟨#[]⟩,.slice none 0 0,.slice none 0 0]=WF:=⟨_,rfl⟩
     rw [hWF] at hF hBF hfar ⊢
     have HF:=Lib.hid hF
     have HBF:=Lib.hid hBF
     have HFar:=Lib.hid hfar
     clear hF hBF hWF hfar
     go_wp2_with fail
     refine bodyPost_ret (v:=.tuple #[.agg #[.int .i64 ck,.int .i64 iso,.bool ion,.int .i64 inn,.string ⟨itx.toArray⟩,.slice i1 im1 i2,.slice i3 im2 i4,.string ⟨#[]⟩,.int .i64 0,.string ⟨#[]⟩,.slice none 0 0,.int .i64 0,.int .i64 0,.int .i64 0,.bool false,.int .i64 0,.string ⟨#[]⟩,.slice none 0 0,.slice none 0 0],.int .i64 44]) ((results_call (fn:=Tryz.f14) (p:=2) (u:=3) (by rfl) (by rfl) HF.out rfl).trans rfl) rfl ?_
     rw [HNA.out]
     exact ⟨HBF.out,.slice i1 im1 i2,.slice i3 im2 i4,.slice none 0 0,.slice none 0 0,.slice none 0 0,rfl,ValIn.later (fun k hk _=>HFar.out k (by omega)) (fun k hk=>by omega) _ _ _ HI.out,edits_nil _ _,leaf_in _ _ _ _ _ _⟩
    | true =>
     have hA':=HT2.out
     simp only [↓reduceIte] at hA'
     have HNA:=Lib.hid hA'
     clear hA' HT2
     have g1:=HGC.out 1 _ rfl
     have g2:=HGC.out 2 _ rfl
     have g3:=HGC.out 3 _ rfl
     have g4:=HGC.out 4 _ rfl
     have g5:=HGC.out 5 _ rfl
     have g6:=HGC.out 6 _ rfl
     have n1:=HU.out.cell 1
     have n2:=HU.out.cell 2
     have n3:=HU.out.cell 3
     have n4:=HU.out.cell 4
     have n5:=HU.out.cell 5
     have n6:=HU.out.cell 6
     simp only [List.getElem?_toArray,List.getElem?_cons_zero,List.getElem?_cons_succ] at n1 n2 n3 n4 n5 n6
     have nf:=HU.out.frozen
     obtain ⟨W11,hW11⟩:∃ W11,((((((W10.setCell ⟨u,1,none⟩ (.int .i64 iso)).setCell ⟨u,2,none⟩ (.bool ion)).setCell ⟨u,3,none⟩ (.int .i64 inn)).setCell ⟨u,4,none⟩ (.string ⟨itx.toArray⟩)).setCell ⟨u,5,none⟩ (.slice i1 im1 i2)).setCell ⟨u,6,none⟩ (.slice i3 im2 i4))=W11:=⟨_,rfl⟩
     have HU2:=Lib.hid (show Cs u #[.int .i64 ck,.int .i64 iso,.bool ion,.int .i64 inn,.string ⟨itx.toArray⟩,.slice i1 im1 i2,.slice i3 im2 i4,.string ⟨cname.toArray⟩,.int .i64 cver,.string ⟨ctext.toArray⟩,.slice ca cch.length cc,.int .i64 cpl,.int .i64 cpu,.int .i64 oso,.bool oon,.int .i64 onn,.string ⟨otx.toArray⟩,.slice o1 olst.length o2,.slice o3 oks.length o4] W11 by rw [← hW11];exact ((((((HU.out.set 1 (.int .i64 iso)).set 2 (.bool ion)).set 3 (.int .i64 inn)).set 4 (.string ⟨itx.toArray⟩)).set 5 (.slice i1 im1 i2)).set 6 (.slice i3 im2 i4)))
     have far:∀ k,k≠u→W11.heap[k]?=W10.heap[k]?:=fun k hk=>by rw [← hW11,Below.heap_setCell _ _ _ _ hk,Below.heap_setCell _ _ _ _ hk,Below.heap_setCell _ _ _ _ hk,Below.heap_setCell _ _ _ _ hk,Below.heap_setCell _ _ _ _ hk,Below.heap_setCell _ _ _ _ hk]
     have HR2:=Lib.hid (show Cs r zeroC W11 from (far r hru).trans HR.out)
     have HB2:=Lib.hid (show Below w.heap.size w W11 by rw [← hW11];exact ((((((HB.out.setCell (p:=⟨u,1,none⟩) (show w.heap.size≤u by omega) (.int .i64 iso)).setCell (p:=⟨u,2,none⟩) (show w.heap.size≤u by omega) (.bool ion)).setCell (p:=⟨u,3,none⟩) (show w.heap.size≤u by omega) (.int .i64 inn)).setCell (p:=⟨u,4,none⟩) (show w.heap.size≤u by omega) (.string ⟨itx.toArray⟩)).setCell (p:=⟨u,5,none⟩) (show w.heap.size≤u by omega) (.slice i1 im1 i2)).setCell (p:=⟨u,6,none⟩) (show w.heap.size≤u by omega) (.slice i3 im2 i4)))
     have HI2:=Lib.hid (ValIn.later (R':=fun k=>W2.heap.size≤k∧k<u) (fun k hk _=>far k (by omega)) (fun k hk=>hk) _ _ _ HI.out)
     have HE3:=Lib.hid (EditsIn.later (R':=fun k=>W6.heap.size≤k∧k<u) HE2.out (fun k hk _=>far k (by omega)) (fun k hk=>hk))
     have HO3:=Lib.hid (ValIn.later (R':=fun k=>W6.heap.size≤k∧k<u) (fun k hk _=>far k (by omega)) (fun k hk=>hk) _ _ _ HO2.out)
     clear HR HB HI HE2 HO2 HU far
     have HR:=HR2
     have HB:=HB2
     have HI:=HI2
     obtain ⟨V,hV⟩:∃ V,Value.agg #[.int .i64 ck,.int .i64 iso,.bool ion,.int .i64 inn,.string ⟨itx.toArray⟩,.slice i1 im1 i2,.slice i3 im2 i4,.string ⟨cname.toArray⟩,.int .i64 cver,.string ⟨ctext.toArray⟩,.slice ca cch.length cc,.int .i64 cpl,.int .i64 cpu,.int .i64 oso,.bool oon,.int .i64 onn,.string ⟨otx.toArray⟩,.slice o1 olst.length o2,.slice o3 oks.length o4]=V:=⟨_,rfl⟩
     go_upto_region 11 with fail
     (try rw [hW11])
     clear hW11 n1 g1 n2 g2 n3 g3 n4 g4 n5 g5 n6 g6 nf HR2 HB2 HI2
     iterate 1 go_step
     refine wpList_loadTab rfl _ _ rfl V ((HU2.out.load rfl).trans (by rw [hV])) ?_
     refine wpList_storeV rfl rfl 43 (.tmp 2) (.tmp 49) rfl _ (store_as hV HR.out rfl rfl (by kernel_rfl)) ?_
     have hF:Cs r #[.int .i64 ck,.int .i64 iso,.bool ion,.int .i64 inn,.string ⟨itx.toArray⟩,.slice i1 im1 i2,.slice i3 im2 i4,.string ⟨cname.toArray⟩,.int .i64 cver,.string ⟨ctext.toArray⟩,.slice ca cch.length cc,.int .i64 cpl,.int .i64 cpu,.int .i64 oso,.bool oon,.int .i64 onn,.string ⟨otx.toArray⟩,.slice o1 olst.length o2,.slice o3 oks.length o4] (W11.setRow r #[.int .i64 ck,.int .i64 iso,.bool ion,.int .i64 inn,.string ⟨itx.toArray⟩,.slice i1 im1 i2,.slice i3 im2 i4,.string ⟨cname.toArray⟩,.int .i64 cver,.string ⟨ctext.toArray⟩,.slice ca cch.length cc,.int .i64 cpl,.int .i64 cpu,.int .i64 oso,.bool oon,.int .i64 onn,.string ⟨otx.toArray⟩,.slice o1 olst.length o2,.slice o3 oks.length o4]):=HR.out.row _
     have hBF:Below w.heap.size w (W11.setRow r #[.int .i64 ck,.int .i64 iso,.bool ion,.int .i64 inn,.string ⟨itx.toArray⟩,.slice i1 im1 i2,.slice i3 im2 i4,.string ⟨cname.toArray⟩,.int .i64 cver,.string ⟨ctext.toArray⟩,.slice ca cch.length cc,.int .i64 cpl,.int .i64 cpu,.int .i64 oso,.bool oon,.int .i64 onn,.string ⟨otx.toArray⟩,.slice o1 olst.length o2,.slice o3 oks.length o4]):=Below.setRow' HB.out hrw _
     have hfar:∀ k,k≠r→(W11.setRow r #[.int .i64 ck,.int .i64 iso,.bool ion,.int .i64 inn,.string ⟨itx.toArray⟩,.slice i1 im1 i2,.slice i3 im2 i4,.string ⟨cname.toArray⟩,.int .i64 cver,.string ⟨ctext.toArray⟩,.slice ca cch.length cc,.int .i64 cpl,.int .i64 cpu,.int .i64 oso,.bool oon,.int .i64 onn,.string ⟨otx.toArray⟩,.slice o1 olst.length o2,.slice o3 oks.length o4]).heap[k]?=W11.heap[k]?:=fun k hk=>setRow_other _ _ _ _ hk
     obtain ⟨WF,hWF⟩:∃ WF,W11.setRow r #[.int .i64 ck,.int .i64 iso,.bool ion,.int .i64 inn,.string ⟨itx.toArray⟩,.slice i1 im1 i2,.slice i3 im2 i4,.string ⟨cname.toArray⟩,.int .i64 cver,.string ⟨ctext.toArray⟩,.slice ca cch.length cc,.int .i64 cpl,.int .i64 cpu,.int .i64 oso,.bool oon,.int .i64 onn,.string ⟨otx.toArray⟩,.slice o1 olst.length o2,.slice o3 oks.length o4]=WF:=⟨_,rfl⟩
     rw [hWF] at hF hBF hfar ⊢
     have HF:=Lib.hid hF
     have HBF:=Lib.hid hBF
     have HFar:=Lib.hid hfar
     clear hF hBF hWF hfar
     go_wp2_with fail
     refine bodyPost_ret (v:=.tuple #[.agg #[.int .i64 ck,.int .i64 iso,.bool ion,.int .i64 inn,.string ⟨itx.toArray⟩,.slice i1 im1 i2,.slice i3 im2 i4,.string ⟨cname.toArray⟩,.int .i64 cver,.string ⟨ctext.toArray⟩,.slice ca cch.length cc,.int .i64 cpl,.int .i64 cpu,.int .i64 oso,.bool oon,.int .i64 onn,.string ⟨otx.toArray⟩,.slice o1 olst.length o2,.slice o3 oks.length o4],.int .i64 0]) ((results_call (fn:=Tryz.f14) (p:=2) (u:=3) (by rfl) (by rfl) HF.out rfl).trans rfl) rfl ?_
     rw [HNA.out]
     exact ⟨HBF.out,.slice i1 im1 i2,.slice i3 im2 i4,.slice ca cch.length cc,.slice o1 olst.length o2,.slice o3 oks.length o4,rfl,ValIn.later (fun k hk _=>HFar.out k (by omega)) (fun k hk=>by omega) _ _ _ HI.out,EditsIn.later HE3.out (fun k hk _=>HFar.out k (by omega)) (fun k hk=>by omega),ValIn.later (fun k hk _=>HFar.out k (by omega)) (fun k hk=>by omega) _ _ _ HO3.out⟩
   ·have hno:=HNO.out (fun h=>hra h.2)
    have HNA:=Lib.hid hno
    have hrb:(rq==ask)=false:=beq_eq_false_iff_ne.2 hra
    have hrb2:(rq != ask)=true:=by rw [bne,hrb];rfl
    clear hno HNO HT hk0 hkr hra
    go_upto_region 6 with fail
    have hb1:=build_id iso inn ion ⟨itx.toArray⟩ i1 i3 im1 i2 im2 i4
    obtain ⟨V,hV⟩:∃ V,Value.agg #[.int .i64 0,.int .i64 iso,.bool ion,.int .i64 inn,.string ⟨itx.toArray⟩,.slice i1 im1 i2,.slice i3 im2 i4,.string ⟨#[]⟩,.int .i64 0,.string ⟨#[]⟩,.slice none 0 0,.int .i64 0,.int .i64 0,.int .i64 0,.bool false,.int .i64 0,.string ⟨#[]⟩,.slice none 0 0,.slice none 0 0]=V:=⟨_,rfl⟩
    simp only [hV] at hb1
    have g1:=HGC.out 1 _ rfl
    have g2:=HGC.out 2 _ rfl
    have g3:=HGC.out 3 _ rfl
    have g4:=HGC.out 4 _ rfl
    have g5:=HGC.out 5 _ rfl
    have g6:=HGC.out 6 _ rfl
    iterate 7 go_step
    refine wpList_buildV rfl 43 [(1,.tmp 30)] rfl V (hb1 _) ?_
    refine wpList_storeV rfl rfl 43 (.tmp 2) (.tmp 31) rfl _ (store_as hV HR.out rfl rfl (by kernel_rfl)) ?_
    have hF:Cs r #[.int .i64 0,.int .i64 iso,.bool ion,.int .i64 inn,.string ⟨itx.toArray⟩,.slice i1 im1 i2,.slice i3 im2 i4,.string ⟨#[]⟩,.int .i64 0,.string ⟨#[]⟩,.slice none 0 0,.int .i64 0,.int .i64 0,.int .i64 0,.bool false,.int .i64 0,.string ⟨#[]⟩,.slice none 0 0,.slice none 0 0] (W6.setRow r #[.int .i64 0,.int .i64 iso,.bool ion,.int .i64 inn,.string ⟨itx.toArray⟩,.slice i1 im1 i2,.slice i3 im2 i4,.string ⟨#[]⟩,.int .i64 0,.string ⟨#[]⟩,.slice none 0 0,.int .i64 0,.int .i64 0,.int .i64 0,.bool false,.int .i64 0,.string ⟨#[]⟩,.slice none 0 0,.slice none 0 0]):=HR.out.row _
    have hBF:Below w.heap.size w (W6.setRow r #[.int .i64 0,.int .i64 iso,.bool ion,.int .i64 inn,.string ⟨itx.toArray⟩,.slice i1 im1 i2,.slice i3 im2 i4,.string ⟨#[]⟩,.int .i64 0,.string ⟨#[]⟩,.slice none 0 0,.int .i64 0,.int .i64 0,.int .i64 0,.bool false,.int .i64 0,.string ⟨#[]⟩,.slice none 0 0,.slice none 0 0]):=Below.setRow' HB.out hrw _
    have hfar:∀ k,k≠r→(W6.setRow r #[.int .i64 0,.int .i64 iso,.bool ion,.int .i64 inn,.string ⟨itx.toArray⟩,.slice i1 im1 i2,.slice i3 im2 i4,.string ⟨#[]⟩,.int .i64 0,.string ⟨#[]⟩,.slice none 0 0,.int .i64 0,.int .i64 0,.int .i64 0,.bool false,.int .i64 0,.string ⟨#[]⟩,.slice none 0 0,.slice none 0 0]).heap[k]?=W6.heap[k]?:=fun k hk=>setRow_other _ _ _ _ hk
    obtain ⟨WF,hWF⟩:∃ WF,W6.setRow r #[.int .i64 0,.int .i64 iso,.bool ion,.int .i64 inn,.string ⟨itx.toArray⟩,.slice i1 im1 i2,.slice i3 im2 i4,.string ⟨#[]⟩,.int .i64 0,.string ⟨#[]⟩,.slice none 0 0,.int .i64 0,.int .i64 0,.int .i64 0,.bool false,.int .i64 0,.string ⟨#[]⟩,.slice none 0 0,.slice none 0 0]=WF:=⟨_,rfl⟩
    rw [hWF] at hF hBF hfar ⊢
    have HF:=Lib.hid hF
    have HBF:=Lib.hid hBF
    have HFar:=Lib.hid hfar
    clear hF hBF hWF hfar
    go_wp2_with fail
    refine bodyPost_ret (v:=.tuple #[.agg #[.int .i64 0,.int .i64 iso,.bool ion,.int .i64 inn,.string ⟨itx.toArray⟩,.slice i1 im1 i2,.slice i3 im2 i4,.string ⟨#[]⟩,.int .i64 0,.string ⟨#[]⟩,.slice none 0 0,.int .i64 0,.int .i64 0,.int .i64 0,.bool false,.int .i64 0,.string ⟨#[]⟩,.slice none 0 0,.slice none 0 0],.int .i64 43]) ((results_call (fn:=Tryz.f14) (p:=2) (u:=3) (by rfl) (by rfl) HF.out rfl).trans rfl) rfl ?_
    rw [HNA.out]
    exact ⟨HBF.out,.slice i1 im1 i2,.slice i3 im2 i4,.slice none 0 0,.slice none 0 0,.slice none 0 0,rfl,ValIn.later (fun k hk _=>HFar.out k (by omega)) (fun k hk=>by omega) _ _ _ HI.out,edits_nil _ _,leaf_in _ _ _ _ _ _⟩
end Go.Proofs.YtpbnhnilfpoljaaGreatDoor.M
namespace Go.Proofs.YtpbnhnilfpoljaaGreatDoor.M
open Go.RowKit
open Go.Lib Go.Proofs.YtpbnhnilfpoljaaGreatDoor.V
theorem place_eq (d:Nat) (a b a' b':Int) (W:World):(Op.equalIn (d+1+1) 29 (.agg #[.int .i64 a,.int .i64 b]) (.agg #[.int .i64 a',.int .i64 b'])).run Tryz.prog W=.ok (placeB ⟨a,b⟩ ⟨a',b'⟩) W:=by
 rw [run_equalIn_agg _ _ _ _ _ (by kernel_rfl) (by kernel_rfl)]
 unfold placeB
 cases h:(a==a') <;> cases h2:(b==b') <;> simp [Op.eqFields,go_sem,h] <;> simpa using h2
theorem apiedit_eq (d:Nat) (fl fu tl tu fl' fu' tl' tu':Int) (t t':List UInt8) (W:World):(Op.equalIn (d+1+1+1) 69 (.agg #[.int .i64 fl,.int .i64 fu,.int .i64 tl,.int .i64 tu,.string ⟨t.toArray⟩]) (.agg #[.int .i64 fl',.int .i64 fu',.int .i64 tl',.int .i64 tu',.string ⟨t'.toArray⟩])).run Tryz.prog W=.ok (placeB ⟨fl,fu⟩ ⟨fl',fu'⟩&&placeB ⟨tl,tu⟩ ⟨tl',tu'⟩&&t==t') W:=by
 rw [run_equalIn_agg _ _ _ _ _ (by kernel_rfl) (by kernel_rfl)]
 have h1:=fun W=>place_eq d fl fu fl' fu' W
 have h2:=fun W=>place_eq d tl tu tl' tu' W
 generalize placeB ⟨fl,fu⟩ ⟨fl',fu'⟩=x1 at h1 ⊢
 generalize placeB ⟨tl,tu⟩ ⟨tl',tu'⟩=x2 at h2 ⊢
 cases x1 <;> cases x2 <;> simp [Op.eqFields,go_sem,h1,h2] <;> (by_cases ht:t=t' <;> simp [ht])
theorem rpcedit_eq (d:Nat) (fl fu tl tu fl' fu' tl' tu':Int) (t t':List UInt8) (wh wh':Bool) (W:World):(Op.equalIn (d+1+1+1+1) 84 (.agg #[.int .i64 fl,.int .i64 fu,.int .i64 tl,.int .i64 tu,.string ⟨t.toArray⟩,.bool wh]) (.agg #[.int .i64 fl',.int .i64 fu',.int .i64 tl',.int .i64 tu',.string ⟨t'.toArray⟩,.bool wh'])).run Tryz.prog W=.ok (editB ⟨⟨fl,fu⟩,⟨tl,tu⟩,t,wh⟩ ⟨⟨fl',fu'⟩,⟨tl',tu'⟩,t',wh'⟩) W:=by
 rw [run_equalIn_agg _ _ _ _ _ (by kernel_rfl) (by kernel_rfl)]
 have h1:=fun W=>apiedit_eq d fl fu tl tu fl' fu' tl' tu' t t' W
 unfold editB
 generalize (placeB ⟨fl,fu⟩ ⟨fl',fu'⟩&&placeB ⟨tl,tu⟩ ⟨tl',tu'⟩&&t==t')=x1 at h1 ⊢
 cases x1 <;> cases wh <;> cases wh' <;> simp [Op.eqFields,go_sem,h1]
theorem refedit_eq (d:Nat) (fl fu tl tu fl' fu' tl' tu':Int) (t t':List UInt8) (wh wh':Bool) (W:World):(Op.equalIn (d+1+1+1+1) 71 (.agg #[.int .i64 fl,.int .i64 fu,.int .i64 tl,.int .i64 tu,.string ⟨t.toArray⟩,.bool wh]) (.agg #[.int .i64 fl',.int .i64 fu',.int .i64 tl',.int .i64 tu',.string ⟨t'.toArray⟩,.bool wh'])).run Tryz.prog W=.ok (editB ⟨⟨fl,fu⟩,⟨tl,tu⟩,t,wh⟩ ⟨⟨fl',fu'⟩,⟨tl',tu'⟩,t',wh'⟩) W:=by
 rw [run_equalIn_agg _ _ _ _ _ (by kernel_rfl) (by kernel_rfl)]
 have h1:=fun W=>apiedit_eq d fl fu tl tu fl' fu' tl' tu' t t' W
 unfold editB
 generalize (placeB ⟨fl,fu⟩ ⟨fl',fu'⟩&&placeB ⟨tl,tu⟩ ⟨tl',tu'⟩&&t==t')=x1 at h1 ⊢
 cases x1 <;> cases wh <;> cases wh' <;> simp [Op.eqFields,go_sem,h1]
theorem eql_place (p q:PlaceP) (W:World):(binOp .eql 29 (.agg #[.int .i64 p.line,.int .i64 p.unit]) (.agg #[.int .i64 q.line,.int .i64 q.unit])).run Tryz.prog W=.ok (.bool (placeB p q)) W:=by
 rw [run_eql_struct,show (10000:Nat)=9998+1+1 from rfl,place_eq];rfl
theorem neq_place (p q:PlaceP) (W:World):(binOp .neq 29 (.agg #[.int .i64 p.line,.int .i64 p.unit]) (.agg #[.int .i64 q.line,.int .i64 q.unit])).run Tryz.prog W=.ok (.bool (!placeB p q)) W:=by
 rw [run_neq_struct,show (10000:Nat)=9998+1+1 from rfl,place_eq];rfl
theorem neq_rpcedit (e f:EditP) (W:World):(binOp .neq 84 (.agg (editC e).toArray) (.agg (editC f).toArray)).run Tryz.prog W=.ok (.bool (!editB e f)) W:=by
 obtain ⟨⟨fl,fu⟩,⟨tl,tu⟩,t,wh⟩:=e
 obtain ⟨⟨fl',fu'⟩,⟨tl',tu'⟩,t',wh'⟩:=f
 simp only [editC,strCell]
 rw [run_neq_struct,show (10000:Nat)=9996+1+1+1+1 from rfl,rpcedit_eq];rfl
theorem neq_refedit (e f:EditP) (W:World):(binOp .neq 71 (.agg (editC e).toArray) (.agg (editC f).toArray)).run Tryz.prog W=.ok (.bool (!editB e f)) W:=by
 obtain ⟨⟨fl,fu⟩,⟨tl,tu⟩,t,wh⟩:=e
 obtain ⟨⟨fl',fu'⟩,⟨tl',tu'⟩,t',wh'⟩:=f
 simp only [editC,strCell]
 rw [run_neq_struct,show (10000:Nat)=9996+1+1+1+1 from rfl,refedit_eq];rfl
end Go.Proofs.YtpbnhnilfpoljaaGreatDoor.M
namespace Go.Proofs.YtpbnhnilfpoljaaGreatDoor.M
open Go.RowKit
open Go.Lib Go.Proofs.YtpbnhnilfpoljaaGreatDoor.V
theorem below_drewN {B:Nat} {a w:World} (h:Below B a w) (n:Nat):Below B a (w.drewN n):=⟨h.os,h.tape,h.output,h.size,h.block⟩
theorem editsB_len:∀ {l m:List EditP},l.length≠m.length→editsB l m=false
 | [],[],h=>absurd rfl h
 | [],_ :: _,_=>rfl
 | _ :: _,[],_=>rfl
 | x :: l,y :: m,h=>by
  have:=@editsB_len l m (by simpa using h)
  simp [editsB,this]
theorem editsB_drop {l m:List EditP} {i:Nat} (h:i<l.length) (h':i<m.length):editsB (l.drop i) (m.drop i)=(editB l[i] m[i]&&editsB (l.drop (i+1)) (m.drop (i+1))):=by
 rw [List.drop_eq_getElem_cons h,List.drop_eq_getElem_cons h'];simp only [editsB]
set_option maxHeartbeats 4000000 in
theorem eq_edits (l m:List EditP) (a b:Option Addr) (ca cb:Nat) (R R':Nat→Prop) (w:World) (hl:EditsIn w R l (.slice a l.length ca)) (hm:EditsIn w R' m (.slice b m.length cb)) (hll:l.length≤100000) :
  Calls Tryz.prog 60 #[.slice a l.length ca,.slice b m.length cb] w fun e w'=>e=.returned (.bool (editsB l m))∧Below w.heap.size w w':=by
 by_cases hlen:l.length=m.length
 ·have HL:=Lib.hid hl
  have HM:=Lib.hid hm
  obtain ⟨R1,hR1⟩:∃ r,editsB l m=r:=⟨_,rfl⟩
  rw [hR1]
  have HR:=Lib.hid (show editsB (l.drop 0) (m.drop 0)=R1 from hR1)
  obtain ⟨ln,hln⟩:∃ k,l.length=k:=⟨_,rfl⟩
  have HLN:=Lib.hid hln
  have HLN':=Lib.hid (hlen.symm.trans hln)
  have HB0:=Lib.hid (Below.refl w.heap.size w)
  rw [← hlen,hln]
  rw [hln] at hll
  clear hl hm hR1 hln hlen
  go_enter Tryz.func60,Tryz.ntmps60
  go_wp2_with fail
  go_loopw [13] (fun iv wr=>∃ i:Nat,iv=.int .i64 i∧i≤ln∧Hid (editsB (l.drop i) (m.drop i)=R1)∧Hid (Below w.heap.size w wr)) (fun iv _=>ln - (Go.RowKit.intOf iv).toNat)
  case atStart=>exact ⟨0,rfl,by omega,HR,HB0⟩
  case round =>
   obtain ⟨i,rfl,hi,HI,HB⟩:=hrel
   by_cases hlt:i<ln
   ·have hl1:i<l.length:=by rw [HLN.out];exact hlt
    have hl2:i<m.length:=by rw [HLN'.out];exact hlt
    have hl3:=HL.out
    have hm3:=HM.out
    obtain ⟨a',c',e1,h1⟩:=hl3
    obtain ⟨b',d',e2,h2⟩:=hm3
    injection e1 with e1 _ _
    injection e2 with e2 _ _
    subst e1
    subst e2
    obtain ⟨g,off,rfl,hg,hc⟩:=h1.resolve_left (fun h=>by rw [h] at hl1;exact Nat.not_lt_zero _ hl1)
    obtain ⟨g',off',rfl,hg',hc'⟩:=h2.resolve_left (fun h=>by rw [h] at hl2;exact Nat.not_lt_zero _ hl2)
    have hsm:∀ Q,Same Q w wr:=fun _ b _ hb=>HB.out.block b hb
    obtain ⟨k0,k1,k2,k3,k4,k5⟩:=edit_at i (hc.later hg (hsm R)) hl1
    obtain ⟨j0,j1,j2,j3,j4,j5⟩:=edit_at i (hc'.later hg' (hsm R')) hl2
    have hdr:=editsB_drop hl1 hl2
    rw [HI.out] at hdr
    have hn:=fun W=>neq_rpcedit l[i] m[i] W
    generalize editB l[i] m[i]=x at hdr hn
    generalize l[i]=e at hn k0 k1 k2 k3 k4 k5
    generalize m[i]=f at hn j0 j1 j2 j3 j4 j5
    obtain ⟨⟨fl,fu⟩,⟨tl,tu⟩,t,wh⟩:=e
    obtain ⟨⟨fl',fu'⟩,⟨tl',tu'⟩,t',wh'⟩:=f
    simp only [editC,strCell] at hn
    have HDR:=Lib.hid hdr
    have hlt1:(i:Int)<(ln:Int):=by omega
    clear hdr hsm hc hc' h1 h2 hg hg'
    go_upto_region 6 with fail
    go_quiet (fail)
    have HB2:=Lib.hid (below_drewN HB.out nq)
    cases x with
    | false =>
     go_wp2_with fail
     go_ret
     exact ⟨by rw [HDR.out];rfl,HB2.out⟩
    | true =>
     go_wp2_with fail
     go_roundw
     case rel=>exact ⟨i+1,by go_num,by omega,Lib.hid (by rw [HDR.out,Bool.true_and]),HB2⟩
     case measure=>simp [Go.RowKit.intOf];omega
   ·go_wp2_with fail
    go_ret
    refine ⟨?_,HB.out⟩
    obtain rfl:i=ln:=by omega
    have h:=HI.out
    rw [List.drop_eq_nil_of_le (by rw [HLN.out];exact Nat.le_refl _),List.drop_eq_nil_of_le (by rw [HLN'.out];exact Nat.le_refl _)] at h
    rw [← h];simp [editsB]
 ·rw [editsB_len hlen]
  have q:((l.length:Int)==(m.length:Int))=false:=by simp;omega
  have q2:((l.length:Int) != (m.length:Int))=true:=by simp;omega
  clear hl hm hlen
  go_enter Tryz.func60,Tryz.ntmps60
  go_wp2_with fail
  go_ret
  exact ⟨rfl,Below.refl _ _⟩
end Go.Proofs.YtpbnhnilfpoljaaGreatDoor.M
