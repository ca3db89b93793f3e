/- What the claim needs of the texts TStmt, TRecord. -/
import Derived.Test.YtmclaaonlhnbmaaGreatDoorROp
import Derived.Test.YtmclaaonlhnbmaaGreatDoorR17
namespace Go.Proofs.YtmclaaonlhnbmaaGreatDoor.T
open Go.RowKit
open Go.Lib hiding intOf
open U S L
set_option maxHeartbeats 16000000 in
set_option maxRecDepth 20000 in
theorem stmt_step (d:Nat) (L:List TokP) (lv:Value) (hL:L.length≤1000000) (n:Nat) (ihB:∀ m,n=m+1→BlockAt d L lv m) (ih:∀ m,n=m+1→BranchAt d L lv m):StmtAt d L lv n:=by
 intro i b w hR hT hi hn;obtain ⟨O,hO⟩:∃ O,start b i (stmt L n i)=O:=⟨_,rfl⟩;have HO:=hid hO;have HI:=hid ih;have HIB:=hid ihB;rw [hO];clear hO ih ihB;have hd:=hR.lt;obtain ⟨W1,hW1⟩:∃ W1,w.alloc zeroP=W1:=⟨_,rfl⟩
 have hb1:Below w.heap.size w W1:=by rw [← hW1];exact (Below.refl _ w).alloc (Nat.le_refl _) _
 have HM1:=hid (Mv.of_below (d:=d) hb1)
 have hq1:W1.heap[w.heap.size]?=some (.cells #[.string ⟨#[]⟩,.string ⟨#[]⟩,.int .i64 0,.int .i64 0,.slice none 0 0] 25 (0,0)):=by rw [← hW1];exact heap_alloc_new w _
 have hR1:Rd d lv i b W1:=hR.below hb1;have hT1:=hT.mv (Mv.of_below hb1) (Nat.le_refl _);have c1:=from_any d L lv i b W1 hR1 hT1;obtain ⟨fr,hfr⟩:∃ fr,fromT L i=fr:=⟨_,rfl⟩;rw [hfr] at c1;have HFR:=hid hfr;have HW1:=hid hW1;have HQ1:=hid hq1;have HR1:=hid hR1;have HT1:=hid hT1;have HT0:=hid hT;have HN:=hid hn;obtain ⟨Q,hQ⟩:∃ Q,Reads d lv O w=Q:=⟨_,rfl⟩;have HQ:=hid hQ;rw [hQ];clear hW1 hq1 hb1 hR1 hT1 hfr hn hQ hR hT
 go_enter Tryz.func100,Tryz.ntmps100
 go_wp2_with fail
 rw [HW1.out];refine c1.mono ?_;intro x w2 h2;obtain ⟨rfl,hw2⟩:=h2.went HR1.out;have HM2:=hid hw2.2;have HR2:=hid hw2.1;clear c1 h2 hw2;have c3:=is_any d L lv i b kVar w2 HR2.out (HT1.out.mv HM2.out (Nat.le_refl _));rw [show bstr kVar=⟨#[118,97,114]⟩ from rfl] at c3;obtain ⟨RV,hRV⟩:∃ R,(!b&&isT L kVar i)=R:=⟨_,rfl⟩;rw [hRV] at c3;have HRV:=hid hRV;clear hRV
 cases RV
 ·skip
  go_wp2_with fail
  refine c3.mono ?_;intro x w3 h9;obtain ⟨rfl,hw9⟩:=h9.went HR2.out;have HM3:=hid (HM2.out.trans (hw9.2.mono HM2.out.size));have HR3:=hid hw9.1;clear c3 h9 hw9;have c4:=is_any d L lv i b kIf w3 HR3.out (HT1.out.mv HM3.out (Nat.le_refl _));rw [show bstr kIf=⟨#[105,102]⟩ from rfl] at c4;obtain ⟨RI,hRI⟩:∃ R,(!b&&isT L kIf i)=R:=⟨_,rfl⟩;rw [hRI] at c4;have HRI:=hid hRI;clear hRI
  cases RI
  ·skip
   go_wp2_with fail
   refine c4.mono ?_;intro x w4 h9;obtain ⟨rfl,hw9⟩:=h9.went HR3.out;have HM4:=hid (HM3.out.trans (hw9.2.mono HM3.out.size));have HR4:=hid hw9.1;clear c4 h9 hw9;have c5:=is_any d L lv i b [123] w4 HR4.out (HT1.out.mv HM4.out (Nat.le_refl _));rw [show bstr [123]=⟨#[123]⟩ from rfl] at c5;obtain ⟨RB,hRB⟩:∃ R,(!b&&isT L [123] i)=R:=⟨_,rfl⟩;rw [hRB] at c5;have HRB:=hid hRB;clear hRB
   cases RB
   ·skip
    go_wp2_with fail
    refine c5.mono ?_;intro x w5 h9;obtain ⟨rfl,hw9⟩:=h9.went HR4.out;have HM5:=hid (HM4.out.trans (hw9.2.mono HM4.out.size));have HR5:=hid hw9.1;clear c5 h9 hw9;have c6:=is_any d L lv i b kFor w5 HR5.out (HT1.out.mv HM5.out (Nat.le_refl _));rw [show bstr kFor=⟨#[102,111,114]⟩ from rfl] at c6;obtain ⟨RF,hRF⟩:∃ R,(!b&&isT L kFor i)=R:=⟨_,rfl⟩;rw [hRF] at c6;have HRF:=hid hRF;clear hRF
    cases RF
    ·skip
     go_wp2_with fail
     refine c6.mono ?_;intro x w6 h9;obtain ⟨rfl,hw9⟩:=h9.went HR5.out;have HM6:=hid (HM5.out.trans (hw9.2.mono HM5.out.size));have HR6:=hid hw9.1;clear c6 h9 hw9;have c7:=is_any d L lv i b kReturn w6 HR6.out (HT1.out.mv HM6.out (Nat.le_refl _));rw [show bstr kReturn=⟨#[114,101,116,117,114,110]⟩ from rfl] at c7;obtain ⟨RR,hRR⟩:∃ R,(!b&&isT L kReturn i)=R:=⟨_,rfl⟩;rw [hRR] at c7;have HRR:=hid hRR;clear hRR
     cases RR
     ·skip
      go_wp2_with fail
      refine c7.mono ?_;intro x w7 h9;obtain ⟨rfl,hw9⟩:=h9.went HR6.out;have HM7:=hid (HM6.out.trans (hw9.2.mono HM6.out.size));have HR7:=hid hw9.1;clear c7 h9 hw9
      obtain ⟨m,hm⟩:∃ m,(b=false→n=m+1)∧(b=true→m=0):=by
       cases b
       ·exact ⟨n - 1,fun _=>by have:=HN.out rfl;omega,fun h=>by cases h⟩
       ·exact ⟨0,fun h=>by (cases h),fun _=>rfl⟩
      obtain ⟨oa,hoa⟩:∃ u,start b i (expr L m 0 i)=u:=⟨_,rfl⟩;have HFst:Hid (Fol L i b (start b i (Out.ok () i:Out Unit))):=hid (.begun hi ⟨Nat.le_refl _,hi⟩);have HFoa:Hid (Fol L i b oa):=hid (by rw [← hoa];exact .begun hi ((all_fwd m).expr _ hi 0).toFw)
      have HGoa:Hid (oa.isBad=false→b=false∧i<oa.at):=hid (fun h=>by
       rw [← hoa] at h ⊢;obtain ⟨h1,h2⟩:=start_so h;rw [h2] at h ⊢
       exact ⟨h1,((all_fwd m).expr _ hi 0).gt h⟩)
      have HO3:Hid (O=oa.next fun a j=>if isT L [61] j then (expr L m 0 (j+1)).next fun b k=>part L kAssign [] fr [a,b] k
            else if isT L [58,61] j then (expr L m 0 (j+1)).next fun b k=>part L kDefine [] fr [a,b] k
            else part L kExpr [] fr [a] j):=hid (by
       rw [← HO.out,← HFR.out,← hoa]
       cases b
       ·have hm1:=hm.1 rfl
        subst hm1;rw [start_false,start_false,stmt_succ,if_neg (by rw [show isT L kVar i=false by simpa using HRV.out];decide),if_neg (by rw [show isT L kIf i=false by simpa using HRI.out];decide),if_neg (by rw [show isT L [123] i=false by simpa using HRB.out];decide),if_neg (by rw [show isT L kFor i=false by simpa using HRF.out];decide),if_neg (by rw [show isT L kReturn i=false by simpa using HRR.out];decide)]
       ·rfl)
      obtain ⟨iP,hi0,hz0,hz1,hz2⟩:=info_partsT infoPT;have Hoa:=hid hoa;have HMm:=hid hm;have k1:=HR7.out.c1;clear hoa hm;have c8:=expr_any d L lv hL m 0 i b w7 HR7.out (HT1.out.mv HM7.out (Nat.le_refl _)) hi (fun h=>by have h3:=HN.out h;have h4:=HMm.out.1 h;omega);rw [Hoa.out] at c8
      go_wp2_with fail
      refine c8.mono ?_;rintro x w8 ⟨v,rfl,⟨kx0,tx0,fx0,ex0,ax0,nx0,cx0,rfl,hnnx0,hvx0⟩,hw8⟩;have HVx0:=hid hvx0;have HNNx0:=hid hnnx0;clear hnnx0;have HWx0:=hid hw8;clear c8 hvx0 hw8
      go_upto_region 21 with fail
      obtain ⟨qx0,hqx0⟩:∃ q,w8.heap.size=q:=⟨_,rfl⟩;obtain ⟨V8,hV8⟩:∃ V,w8.alloc (.cells #[.string kx0,.string tx0,.int .i64 fx0,.int .i64 ex0,.slice ax0 nx0 cx0] 25)=V:=⟨_,rfl⟩
      have hb8:Below w8.heap.size w8 V8:=by rw [← hV8];exact (Below.refl _ w8).alloc (Nat.le_refl _) _
      have HBx0:Hid (V8.heap[qx0]?=some (.cells #[.string kx0,.string tx0,.int .i64 fx0,.int .i64 ex0,.slice ax0 nx0 cx0] 25 (0,0))):=hid (by rw [← hV8,← hqx0];exact heap_alloc_new w8 _);have HSx0:Hid (Mv w8.heap.size d w8 V8):=hid (Mv.of_below hb8);have HLx0:Hid (W1.heap.size≤w7.heap.size∧w7.heap.size≤w8.heap.size∧qx0=w8.heap.size):=hid ⟨HM7.out.size,HWx0.out.2.size,hqx0.symm⟩;rw [hV8,hqx0];have HM8:=hid ((HM7.out.trans (HWx0.out.2.mono HM7.out.size)).trans ((Mv.of_below hb8).mono (Nat.le_trans HM7.out.size HWx0.out.2.size)));have HR8:=hid (HWx0.out.1.below hb8)
      skip
      clear hV8 hb8 hqx0;have HDx0_8:Hid (Mv V8.heap.size d V8 V8):=hid (Mv.refl _ _ _);have k2:=HR8.out.c2
      cases hob:oa.isBad
      ·rw [hob] at k2
       obtain ⟨hg1,hg2⟩:=HGoa.out hob
       have hil:i<L.length:=by have:=HFoa.out.le;omega
       have hg5:=HN.out hg1;have hg6:=HMm.out.1 hg1;have HOB:=hid hob;have hoq:=out_pt hob;have HOQ:=hid hoq;obtain ⟨g,off,cap,hlv,hgd,t0,t1,t2,t3⟩:=tk_word (i:=i) (HT1.out.mv HM8.out (Nat.le_refl _)) hil;have c0:=HR8.out.c0;rw [hlv] at c0
       have hfr:fr=L[i].f:=by rw [← HFR.out];unfold fromT;rw [List.getElem?_eq_getElem hil]
       rw [← hfr] at t2;obtain ⟨ln,hln⟩:∃ u,L.length=u:=⟨_,rfl⟩;rw [hln] at c0;have HLN:=hid hln
       have hii:(i:Int)<(ln:Int):=by omega
       have hii0:(0:Int)≤(i:Int):=by omega
       obtain ⟨oL,hoL⟩:∃ u,(oa.next fun a k=>Out.ok [a] k:Out (List Pt))=u:=⟨_,rfl⟩
       have HPR:∀ l j,oL=.ok l j→∃ yx0 jx0,oa=.ok yx0 jx0∧l=[yx0]:=fun l j hl=>by
        rw [← hoL,hoq] at hl;simp only [Out.next,Out.ok.injEq] at hl
        exact ⟨_,_,hoq,hl.1.symm⟩
       have HoL:=hid hoL;clear t0 t1 t3 hfr hlv hgd hoL hob hln hoq;have hzx0:=(HDx0_8.out.block qx0 (Array.getElem?_eq_some_iff.1 HBx0.out).1 (by have:=HLx0.out;have:=HM1.out.size;omega)).trans HBx0.out;obtain ⟨⟨l0x0,l1x0,l2x0,l3x0,l4x0⟩,-⟩:=five_cells hzx0;clear hzx0;obtain ⟨z,hz⟩:∃ z,V8.heap.size=z:=⟨_,rfl⟩;obtain ⟨Z,hZ⟩:∃ Z,V8.alloc (.cells #[.string kx0,.string tx0,.int .i64 fx0,.int .i64 ex0,.slice ax0 nx0 cx0] 25)=Z:=⟨_,rfl⟩
       have hzb:Below V8.heap.size V8 Z:=by rw [← hZ];exact (Below.refl _ V8).alloc (Nat.le_refl _) _
       have hLZ:ListV W1.heap.size oL (.slice (some ⟨V8.heap.size,0,none⟩) 1 1) 1 [.string kx0,.string tx0,.int .i64 fx0,.int .i64 ex0,.slice ax0 nx0 cx0] Z:=ListV.made hZ HM8.out.size rfl (by decide) fives_one (fun l j hl=>by
        obtain ⟨yx0,jx0,hx0,rfl⟩:=HPR l j hl;refine ⟨rfl,?_⟩;obtain ⟨ux0,kx0'⟩:=HVx0.out yx0 jx0 hx0;have sx0:Mv w8.heap.size d w8 V8:=HSx0.out.trans (HDx0_8.out.mono HSx0.out.size);have ix0:=(KidsIn.live _ _ kx0').later (W':=V8) (R':=fun g=>W1.heap.size≤g∧g<V8.heap.size) (sx0.still (Nat.le_refl _) (fun g hg=>by have:=HLx0.out;have:=HM1.out.size;omega)) (fun g hg=>by have:=HLx0.out;have:=sx0.size;omega)
        show PartsIn V8 _ _ (([.string kx0,.string tx0,.int .i64 fx0,.int .i64 ex0,.slice ax0 nx0 cx0]:List Value)++[])
        rw [five_of ux0]
        exact ⟨_,_,rfl,ix0,rfl⟩)
       have HMZ:=hid (HM8.out.trans ((Mv.of_below (d:=d) hzb).mono HM8.out.size));have HRZ:=hid (HR8.out.below hzb);rw [hz] at hLZ;have HLZ:=hid hLZ
       go_upto_region 26 with fail
       try rw [hZ]
       try rw [hz]
       clear hzb hLZ hZ hz l0x0 l1x0 l2x0 l3x0 l4x0;clear HPR k1 k2 c0 t2 hii hii0;have c8:=take_any d L lv oa.at oa.isBad [61] Z HRZ.out (HT1.out.mv HMZ.out (Nat.le_refl _)) (by have:=HFoa.out.le;omega);rw [HOB.out,show bstr [61]=⟨#[61]⟩ from rfl] at c8;obtain ⟨R1,hR1⟩:∃ R,isT L [61] oa.at=R:=⟨_,rfl⟩;rw [show (!false&&isT L [61] oa.at)=R1 from hR1] at c8;have HA:=hid hR1;clear hR1
       cases R1
       ·go_wp2_with fail
        refine c8.mono ?_;rintro x wa ⟨rfl,hwa⟩;have hwa:Went d lv oa.at false Z wa:=hwa;have HMa:=hid (HMZ.out.trans (hwa.2.mono HMZ.out.size));have HRa:=hid hwa.1;have HLa:=hid (HLZ.out.mv hwa.2 (by have:=HM1.out.size;omega));have c9:=take_any d L lv oa.at false [58,61] wa HRa.out (HT1.out.mv HMa.out (Nat.le_refl _)) (by have:=HFoa.out.le;omega);rw [show bstr [58,61]=⟨#[58,61]⟩ from rfl] at c9;obtain ⟨R2,hR2⟩:∃ R,isT L [58,61] oa.at=R:=⟨_,rfl⟩;rw [show (!false&&isT L [58,61] oa.at)=R2 from hR2] at c9;have HA2:=hid hR2;clear c8 hwa hR2
        cases R2
        ·have HO4:Hid (O=oa.next fun a k=>part L kExpr [] fr [a] k):=hid (by
          rw [HO3.out,HOQ.out]
          show (if isT L [61] oa.at=true then _ else _)=_
          rw [if_neg (by rw [HA.out];decide),if_neg (by rw [HA2.out];decide)]
          rfl)
         have HAT:Hid (O.at=oa.at∧O.isBad=oa.isBad):=hid (by rw [HO4.out];cases oa <;> exact ⟨rfl,rfl⟩)
         have HPLL:Hid (∀ p j,O=.ok p j→∃ K T ks j',p=.mk K T fr (toT L oa.at) ks∧bstr K=⟨#[101,120,112,114]⟩∧bstr T=⟨#[]⟩∧oL=.ok ks j'):=hid (by
          intro p j hpj;rw [HO4.out] at hpj;rw [← HoL.out]
          cases oa with
          | bad j=>cases hpj
          | ok a j2 =>
           simp only [Out.next,part,Out.ok.injEq] at hpj
           exact ⟨_,_,_,j2,hpj.1.symm,rfl,rfl,rfl⟩)
         go_wp2_with fail
         refine c9.mono ?_;rintro x wb ⟨rfl,hwb⟩;have hwb:Went d lv oa.at false wa wb:=hwb;rw [← HOB.out] at hwb;have HMb:=hid (HMa.out.trans (hwb.2.mono HMa.out.size));have HRb:=hid hwb.1;have HLb:=hid (HLa.out.mv hwb.2 (by have:=HM1.out.size;omega));clear c9 hwb;have cz:=part_any d L lv oa.at oa.isBad ⟨#[101,120,112,114]⟩ ⟨#[]⟩ fr (some ⟨z,0,none⟩) 1 1 wb HRb.out (HT1.out.mv HMb.out (Nat.le_refl _)) HFoa.out.le hL;obtain ⟨ez,hez⟩:∃ u,toT L oa.at=u:=⟨_,rfl⟩;rw [hez] at cz;have HEZ:=hid hez;clear hez
         go_wp2_with fail
         refine cz.mono ?_;rintro x wq ⟨rfl,hwq⟩;have HMq:=hid (HMb.out.trans (hwq.2.mono HMb.out.size));have HWq:=hid hwq;have hqw:=(Array.getElem?_eq_some_iff.1 HQ1.out).1;have hq7:wq.heap[w.heap.size]?=_:=(HMq.out.block w.heap.size hqw (by omega)).trans HQ1.out;obtain ⟨⟨r0,r1,r2,r3,r4⟩,gz⟩:=five_cells hq7;have g0:=gz 0;have g1:=gz 1;have g2:=gz 2;have g3:=gz 3;have g4:=gz 4;have HQ7:=hid hq7;clear cz hwq hq7 gz
         go_wp2_with fail
         have hp:=set_row5 (a':=.string ⟨#[101,120,112,114]⟩) (b':=.string ⟨#[]⟩) (c':=.int .i64 fr) (d':=.int .i64 ez) (e':=.slice (some ⟨z,0,none⟩) 1 1) HQ7.out;refine bodyPost_ret (v:=.agg #[.string ⟨#[101,120,112,114]⟩,.string ⟨#[]⟩,.int .i64 fr,.int .i64 ez,.slice (some ⟨z,0,none⟩) 1 1]) (results_cell_row rfl _ _ w.heap.size 25 #[.string ⟨#[101,120,112,114]⟩,.string ⟨#[]⟩,.int .i64 fr,.int .i64 ez,.slice (some ⟨z,0,none⟩) 1 1] (0,0) _ (by rfl) hp Tryz.underlying25 rfl (by kernel_rfl)) rfl ?_;rw [← HQ.out];refine reads_end hd (HM1.out.trans (HMq.out.mono HM1.out.size)) HWq.out.1 HAT.out.1 HAT.out.2 ?_ ⟨Nat.le_refl _,Nat.le_refl _⟩;refine partV_list (HLb.out.mv HWq.out.2 (by omega)) (fun g hg=>by omega) (by omega) (fun p j hpj=>?_);rw [← HEZ.out]
         exact HPLL.out p j hpj
        ·skip
         have hlt:oa.at<L.length:=isT_lt HA2.out;obtain ⟨oo,hoo⟩:∃ u,expr L m 0 (oa.at+1)=u:=⟨_,rfl⟩
         have HO4:Hid (O=oo.next fun b k=>part L kDefine [] fr [oa.pt,b] k):=hid (by
          rw [HO3.out,HOQ.out]
          show (if isT L [61] oa.at=true then _ else _)=_
          rw [if_neg (by rw [HA.out];decide),if_pos HA2.out,← hoo]
          rfl)
         have HFoo:Hid (oo.at≤L.length):=hid (by rw [← hoo];exact ((all_fwd m).expr _ hlt 0).le);have HAT:Hid (O.at=oo.at∧O.isBad=oo.isBad):=hid (by rw [HO4.out];cases oo <;> exact ⟨rfl,rfl⟩)
         have HPLL:Hid (∀ p j,O=.ok p j→∃ K T ks j',p=.mk K T fr (toT L oo.at) ks∧bstr K=⟨#[100,101,102,105,110,101]⟩∧bstr T=⟨#[]⟩∧(oo.next fun b k=>Out.ok [oa.pt,b] k)=.ok ks j'):=hid (by
          intro p j hpj;rw [HO4.out] at hpj
          cases oo with
          | bad j=>cases hpj
          | ok a j2 =>
           simp only [Out.next,part,Out.ok.injEq] at hpj
           exact ⟨_,_,_,j2,hpj.1.symm,rfl,rfl,rfl⟩)
         have Hoo:=hid hoo;clear hoo
         go_wp2_with fail
         refine c9.mono ?_;rintro x w4 ⟨rfl,hw4⟩;have hw4:Went d lv (oa.at+1) false wa w4:=hw4;have HMr:=hid (HMa.out.trans (hw4.2.mono HMa.out.size));have HRr:=hid hw4.1;have HLr:=hid (HLa.out.mv hw4.2 (by have:=HM1.out.size;omega));have HTr:=hid (HT1.out.mv HMr.out (Nat.le_refl _));clear c9 hw4;have cb:=expr_any d L lv hL m 0 (oa.at+1) false w4 HRr.out HTr.out hlt (fun _=>by omega);rw [start_false,Hoo.out] at cb
         go_wp2_with fail
         refine cb.mono ?_;rintro x v5 ⟨v,rfl,⟨kb,tb,fb,eb,ab,nb,cb',rfl,hnb,hvb⟩,hw5⟩;have HVB:=hid hvb;have HW5:=hid hw5;clear cb hvb hw5 hnb
         go_upto_region 33 with fail
         obtain ⟨qb,hqb⟩:∃ q,v5.heap.size=q:=⟨_,rfl⟩;obtain ⟨W8,hW8⟩:∃ W,v5.alloc (.cells #[.string kb,.string tb,.int .i64 fb,.int .i64 eb,.slice ab nb cb'] 25)=W:=⟨_,rfl⟩
         have hb8:Below v5.heap.size v5 W8:=by rw [← hW8];exact (Below.refl _ v5).alloc (Nat.le_refl _) _
         have hk8:W8.heap[qb]?=some (.cells #[.string kb,.string tb,.int .i64 fb,.int .i64 eb,.slice ab nb cb'] 25 (0,0)):=by rw [← hW8,← hqb];exact heap_alloc_new v5 _
         rw [hW8,hqb];obtain ⟨⟨l0,l1,l2,l3,l4⟩,-⟩:=five_cells hk8;clear hW8 hqb;have hLx:ListV W1.heap.size oL (.slice (some ⟨z,0,none⟩) 1 1) 1 [.string kx0,.string tx0,.int .i64 fx0,.int .i64 ex0,.slice ax0 nx0 cx0] (W8.alloc (.cells #[.string kb,.string tb,.int .i64 fb,.int .i64 eb,.slice ab nb cb'] 25)):=((HLr.out.mv HW5.out.2 (by have:=HM1.out.size;omega)).mv (Mv.of_below (d:=d) hb8) (by have:=HM1.out.size;omega)).mv (Mv.of_below (d:=d) ((Below.refl _ W8).alloc (Nat.le_refl _) _)) (by have:=HM1.out.size;omega);have hbx:Below v5.heap.size v5 (W8.alloc (.cells #[.string kb,.string tb,.int .i64 fb,.int .i64 eb,.slice ab nb cb'] 25)):=hb8.trans (((Below.refl _ W8).alloc (Nat.le_refl _) _).mono hb8.size)
         have hsx:W1.heap.size≤(W8.alloc (.cells #[.string kb,.string tb,.int .i64 fb,.int .i64 eb,.slice ab nb cb'] 25)).heap.size:=by have:=HW5.out.2.size;have:=HMr.out.size;have:=hbx.size;omega
         have HLx:=hid hLx;have HBx:=hid hbx;clear hLx hbx hb8 hk8
         go_wp2_with (at_builtin;refine wpList_append_own_at _ rfl _ _ 23 rfl W1.heap.size 25 iP _ 5 72 Tryz.underlying23 hi0 hz0 hz1 hz2 rfl (by decide) _ 1 [.string kx0,.string tx0,.int .i64 fx0,.int .i64 ex0,.slice ax0 nx0 cx0] rfl HLx.out.own ⟨W8.heap.size,0,none⟩ 1 1 [.string kb,.string tb,.int .i64 fb,.int .i64 eb,.slice ab nb cb'] rfl rfl (row_news (heap_alloc_new W8 _)) one_part (by unfold maxLen;omega) (by omega) hsx ?_)
         intro v' w7 hown hgrow _ hrow0
         have hrow:v'.ownBlock=(Value.slice (some ⟨z,0,none⟩) 1 1).ownBlock∨v'.ownBlock=some (W8.alloc (.cells #[.string kb,.string tb,.int .i64 fb,.int .i64 eb,.slice ab nb cb'] 25)).heap.size:=by simpa using hrow0
         clear hrow0
         have hown1:∀ k,(Value.slice (some ⟨z,0,none⟩) 1 1).ownBlock=some k→W1.heap.size≤k:=fun k hk=>(HLx.out.own.lt k hk).1
         have hd1:d<W1.heap.size:=by have:=HM1.out.size;omega
         have HR7:Hid (Rd d lv oo.at oo.isBad w7):=hid (by
          have h:=HW5.out.1.below HBx.out
          exact (hgrow.block d h.lt (fun h'=>by have:=hown1 d h'.symm;omega)).trans h)
         have HM7:Hid (Mv W1.heap.size d W1 w7):=hid (HMr.out.trans ((HW5.out.2.mono HMr.out.size).trans (((Mv.of_below HBx.out).mono (by have:=HW5.out.2.size;have:=HMr.out.size;omega)).trans ⟨hgrow.os,hgrow.tape,hgrow.output,hgrow.size,fun k hk _=>hgrow.block k (by omega) (fun h'=>by have:=hown1 k h'.symm;omega)⟩)))
         have HL7:Hid (ListV W1.heap.size (oo.next fun b k=>Out.ok [oa.pt,b] k) v' (1+1) ([.string kx0,.string tx0,.int .i64 fx0,.int .i64 ex0,.slice ax0 nx0 cx0]++[.string kb,.string tb,.int .i64 fb,.int .i64 eb,.slice ab nb cb']) w7):=hid (HLx.out.snoc HLr.out (Nat.le_refl _) HMr.out.size HVB.out HBx.out hown hgrow hrow (fun l j hl=>by
         cases oo with
         | bad k=>cases hl
         | ok o k =>
          cases hl
          exact ⟨[oa.pt],oa.at,o,_,by rw [← HoL.out,HOQ.out];rfl,rfl,rfl⟩))
         obtain ⟨la,lc,hv'⟩:=HL7.out.form;subst hv';clear hown hgrow hrow hown1 hd1 hsx;have cz:=part_any d L lv oo.at oo.isBad ⟨#[100,101,102,105,110,101]⟩ ⟨#[]⟩ fr la (1+1) lc w7 HR7.out (HT1.out.mv HM7.out (Nat.le_refl _)) HFoo.out hL;obtain ⟨ez,hez⟩:∃ u,toT L oo.at=u:=⟨_,rfl⟩;rw [hez] at cz;have HEZ:=hid hez;clear hez
         go_wp2_with fail
         refine cz.mono ?_;rintro x wq ⟨rfl,hwq⟩;have HMq:=hid (HM7.out.trans (hwq.2.mono HM7.out.size));have HWq:=hid hwq;have hqw:=(Array.getElem?_eq_some_iff.1 HQ1.out).1;have hq7:wq.heap[w.heap.size]?=_:=(HMq.out.block w.heap.size hqw (by omega)).trans HQ1.out;obtain ⟨⟨r0,r1,r2,r3,r4⟩,gz⟩:=five_cells hq7;have g0:=gz 0;have g1:=gz 1;have g2:=gz 2;have g3:=gz 3;have g4:=gz 4;have HQ7:=hid hq7;clear cz hwq hq7 gz
         go_wp2_with fail
         have hp:=set_row5 (a':=.string ⟨#[100,101,102,105,110,101]⟩) (b':=.string ⟨#[]⟩) (c':=.int .i64 fr) (d':=.int .i64 ez) (e':=.slice la (1+1) lc) HQ7.out;refine bodyPost_ret (v:=.agg #[.string ⟨#[100,101,102,105,110,101]⟩,.string ⟨#[]⟩,.int .i64 fr,.int .i64 ez,.slice la (1+1) lc]) (results_cell_row rfl _ _ w.heap.size 25 #[.string ⟨#[100,101,102,105,110,101]⟩,.string ⟨#[]⟩,.int .i64 fr,.int .i64 ez,.slice la (1+1) lc] (0,0) _ (by rfl) hp Tryz.underlying25 rfl (by kernel_rfl)) rfl ?_;rw [← HQ.out];refine reads_end hd (HM1.out.trans (HMq.out.mono HM1.out.size)) HWq.out.1 HAT.out.1 HAT.out.2 ?_ ⟨Nat.le_refl _,Nat.le_refl _⟩;refine partV_list (HL7.out.mv HWq.out.2 (by omega)) (fun g hg=>by omega) (by omega) (fun p j hpj=>?_);rw [← HEZ.out]
         exact HPLL.out p j hpj
       ·skip
        have hlt:oa.at<L.length:=isT_lt HA.out;obtain ⟨oo,hoo⟩:∃ u,expr L m 0 (oa.at+1)=u:=⟨_,rfl⟩
        have HO4:Hid (O=oo.next fun b k=>part L kAssign [] fr [oa.pt,b] k):=hid (by
         rw [HO3.out,HOQ.out]
         show (if isT L [61] oa.at=true then _ else _)=_
         rw [if_pos HA.out,← hoo]
         rfl)
        have HFoo:Hid (oo.at≤L.length):=hid (by rw [← hoo];exact ((all_fwd m).expr _ hlt 0).le);have HAT:Hid (O.at=oo.at∧O.isBad=oo.isBad):=hid (by rw [HO4.out];cases oo <;> exact ⟨rfl,rfl⟩)
        have HPLL:Hid (∀ p j,O=.ok p j→∃ K T ks j',p=.mk K T fr (toT L oo.at) ks∧bstr K=⟨#[97,115,115,105,103,110]⟩∧bstr T=⟨#[]⟩∧(oo.next fun b k=>Out.ok [oa.pt,b] k)=.ok ks j'):=hid (by
         intro p j hpj;rw [HO4.out] at hpj
         cases oo with
         | bad j=>cases hpj
         | ok a j2 =>
          simp only [Out.next,part,Out.ok.injEq] at hpj
          exact ⟨_,_,_,j2,hpj.1.symm,rfl,rfl,rfl⟩)
        have Hoo:=hid hoo;clear hoo
        go_wp2_with fail
        refine c8.mono ?_;rintro x w4 ⟨rfl,hw4⟩;have hw4:Went d lv (oa.at+1) false Z w4:=hw4;have HMr:=hid (HMZ.out.trans (hw4.2.mono HMZ.out.size));have HRr:=hid hw4.1;have HLr:=hid (HLZ.out.mv hw4.2 (by have:=HM1.out.size;omega));have HTr:=hid (HT1.out.mv HMr.out (Nat.le_refl _));clear c8 hw4;have cb:=expr_any d L lv hL m 0 (oa.at+1) false w4 HRr.out HTr.out hlt (fun _=>by omega);rw [start_false,Hoo.out] at cb
        go_wp2_with fail
        refine cb.mono ?_;rintro x v5 ⟨v,rfl,⟨kb,tb,fb,eb,ab,nb,cb',rfl,hnb,hvb⟩,hw5⟩;have HVB:=hid hvb;have HW5:=hid hw5;clear cb hvb hw5 hnb
        go_upto_region 33 with fail
        obtain ⟨qb,hqb⟩:∃ q,v5.heap.size=q:=⟨_,rfl⟩;obtain ⟨W8,hW8⟩:∃ W,v5.alloc (.cells #[.string kb,.string tb,.int .i64 fb,.int .i64 eb,.slice ab nb cb'] 25)=W:=⟨_,rfl⟩
        have hb8:Below v5.heap.size v5 W8:=by rw [← hW8];exact (Below.refl _ v5).alloc (Nat.le_refl _) _
        have hk8:W8.heap[qb]?=some (.cells #[.string kb,.string tb,.int .i64 fb,.int .i64 eb,.slice ab nb cb'] 25 (0,0)):=by rw [← hW8,← hqb];exact heap_alloc_new v5 _
        rw [hW8,hqb];obtain ⟨⟨l0,l1,l2,l3,l4⟩,-⟩:=five_cells hk8;clear hW8 hqb;have hLx:ListV W1.heap.size oL (.slice (some ⟨z,0,none⟩) 1 1) 1 [.string kx0,.string tx0,.int .i64 fx0,.int .i64 ex0,.slice ax0 nx0 cx0] (W8.alloc (.cells #[.string kb,.string tb,.int .i64 fb,.int .i64 eb,.slice ab nb cb'] 25)):=((HLr.out.mv HW5.out.2 (by have:=HM1.out.size;omega)).mv (Mv.of_below (d:=d) hb8) (by have:=HM1.out.size;omega)).mv (Mv.of_below (d:=d) ((Below.refl _ W8).alloc (Nat.le_refl _) _)) (by have:=HM1.out.size;omega);have hbx:Below v5.heap.size v5 (W8.alloc (.cells #[.string kb,.string tb,.int .i64 fb,.int .i64 eb,.slice ab nb cb'] 25)):=hb8.trans (((Below.refl _ W8).alloc (Nat.le_refl _) _).mono hb8.size)
        have hsx:W1.heap.size≤(W8.alloc (.cells #[.string kb,.string tb,.int .i64 fb,.int .i64 eb,.slice ab nb cb'] 25)).heap.size:=by have:=HW5.out.2.size;have:=HMr.out.size;have:=hbx.size;omega
        have HLx:=hid hLx;have HBx:=hid hbx;clear hLx hbx hb8 hk8
        go_wp2_with (at_builtin;refine wpList_append_own_at _ rfl _ _ 23 rfl W1.heap.size 25 iP _ 5 72 Tryz.underlying23 hi0 hz0 hz1 hz2 rfl (by decide) _ 1 [.string kx0,.string tx0,.int .i64 fx0,.int .i64 ex0,.slice ax0 nx0 cx0] rfl HLx.out.own ⟨W8.heap.size,0,none⟩ 1 1 [.string kb,.string tb,.int .i64 fb,.int .i64 eb,.slice ab nb cb'] rfl rfl (row_news (heap_alloc_new W8 _)) one_part (by unfold maxLen;omega) (by omega) hsx ?_)
        intro v' w7 hown hgrow _ hrow0
        have hrow:v'.ownBlock=(Value.slice (some ⟨z,0,none⟩) 1 1).ownBlock∨v'.ownBlock=some (W8.alloc (.cells #[.string kb,.string tb,.int .i64 fb,.int .i64 eb,.slice ab nb cb'] 25)).heap.size:=by simpa using hrow0
        clear hrow0
        have hown1:∀ k,(Value.slice (some ⟨z,0,none⟩) 1 1).ownBlock=some k→W1.heap.size≤k:=fun k hk=>(HLx.out.own.lt k hk).1
        have hd1:d<W1.heap.size:=by have:=HM1.out.size;omega
        have HR7:Hid (Rd d lv oo.at oo.isBad w7):=hid (by
         have h:=HW5.out.1.below HBx.out
         exact (hgrow.block d h.lt (fun h'=>by have:=hown1 d h'.symm;omega)).trans h)
        have HM7:Hid (Mv W1.heap.size d W1 w7):=hid (HMr.out.trans ((HW5.out.2.mono HMr.out.size).trans (((Mv.of_below HBx.out).mono (by have:=HW5.out.2.size;have:=HMr.out.size;omega)).trans ⟨hgrow.os,hgrow.tape,hgrow.output,hgrow.size,fun k hk _=>hgrow.block k (by omega) (fun h'=>by have:=hown1 k h'.symm;omega)⟩)))
        have HL7:Hid (ListV W1.heap.size (oo.next fun b k=>Out.ok [oa.pt,b] k) v' (1+1) ([.string kx0,.string tx0,.int .i64 fx0,.int .i64 ex0,.slice ax0 nx0 cx0]++[.string kb,.string tb,.int .i64 fb,.int .i64 eb,.slice ab nb cb']) w7):=hid (HLx.out.snoc HLr.out (Nat.le_refl _) HMr.out.size HVB.out HBx.out hown hgrow hrow (fun l j hl=>by
        cases oo with
        | bad k=>cases hl
        | ok o k =>
         cases hl
         exact ⟨[oa.pt],oa.at,o,_,by rw [← HoL.out,HOQ.out];rfl,rfl,rfl⟩))
        obtain ⟨la,lc,hv'⟩:=HL7.out.form;subst hv';clear hown hgrow hrow hown1 hd1 hsx;have cz:=part_any d L lv oo.at oo.isBad ⟨#[97,115,115,105,103,110]⟩ ⟨#[]⟩ fr la (1+1) lc w7 HR7.out (HT1.out.mv HM7.out (Nat.le_refl _)) HFoo.out hL;obtain ⟨ez,hez⟩:∃ u,toT L oo.at=u:=⟨_,rfl⟩;rw [hez] at cz;have HEZ:=hid hez;clear hez
        go_wp2_with fail
        refine cz.mono ?_;rintro x wq ⟨rfl,hwq⟩;have HMq:=hid (HM7.out.trans (hwq.2.mono HM7.out.size));have HWq:=hid hwq;have hqw:=(Array.getElem?_eq_some_iff.1 HQ1.out).1;have hq7:wq.heap[w.heap.size]?=_:=(HMq.out.block w.heap.size hqw (by omega)).trans HQ1.out;obtain ⟨⟨r0,r1,r2,r3,r4⟩,gz⟩:=five_cells hq7;have g0:=gz 0;have g1:=gz 1;have g2:=gz 2;have g3:=gz 3;have g4:=gz 4;have HQ7:=hid hq7;clear cz hwq hq7 gz
        go_wp2_with fail
        have hp:=set_row5 (a':=.string ⟨#[97,115,115,105,103,110]⟩) (b':=.string ⟨#[]⟩) (c':=.int .i64 fr) (d':=.int .i64 ez) (e':=.slice la (1+1) lc) HQ7.out;refine bodyPost_ret (v:=.agg #[.string ⟨#[97,115,115,105,103,110]⟩,.string ⟨#[]⟩,.int .i64 fr,.int .i64 ez,.slice la (1+1) lc]) (results_cell_row rfl _ _ w.heap.size 25 #[.string ⟨#[97,115,115,105,103,110]⟩,.string ⟨#[]⟩,.int .i64 fr,.int .i64 ez,.slice la (1+1) lc] (0,0) _ (by rfl) hp Tryz.underlying25 rfl (by kernel_rfl)) rfl ?_;rw [← HQ.out];refine reads_end hd (HM1.out.trans (HMq.out.mono HM1.out.size)) HWq.out.1 HAT.out.1 HAT.out.2 ?_ ⟨Nat.le_refl _,Nat.le_refl _⟩;refine partV_list (HL7.out.mv HWq.out.2 (by omega)) (fun g hg=>by omega) (by omega) (fun p j hpj=>?_);rw [← HEZ.out]
        exact HPLL.out p j hpj
      ·rw [hob] at k2
       have HAT:Hid (O.at=oa.at∧O.isBad=oa.isBad):=hid (by
        rw [HO3.out]
        cases oa with
        | ok a j=>cases hob
        | bad j=>exact ⟨rfl,rfl⟩)
       have HPO:Hid (∀ p j,O=.ok p j→∃ j',oa=.ok p j'):=hid (by
        intro p j hpj;rw [HO3.out] at hpj
        cases oa with
        | ok a j=>cases hob
        | bad j=>cases hpj)
       clear hob;have hzx0:=(HDx0_8.out.block qx0 (Array.getElem?_eq_some_iff.1 HBx0.out).1 (by have:=HLx0.out;have:=HM1.out.size;omega)).trans HBx0.out;obtain ⟨⟨l0x0,l1x0,l2x0,l3x0,l4x0⟩,-⟩:=five_cells hzx0;clear hzx0;have hqw:=(Array.getElem?_eq_some_iff.1 HQ1.out).1;have hq7:V8.heap[w.heap.size]?=_:=(HM8.out.block w.heap.size hqw (by omega)).trans HQ1.out;obtain ⟨⟨r0,r1,r2,r3,r4⟩,gz⟩:=five_cells hq7;have g0:=gz 0;have g1:=gz 1;have g2:=gz 2;have g3:=gz 3;have g4:=gz 4;have HQ7:=hid hq7;clear gz hq7
       go_wp2_with fail
       have hp:=set_row5 (a':=.string kx0) (b':=.string tx0) (c':=.int .i64 fx0) (d':=.int .i64 ex0) (e':=.slice ax0 nx0 cx0) HQ7.out;refine bodyPost_ret (v:=.agg #[.string kx0,.string tx0,.int .i64 fx0,.int .i64 ex0,.slice ax0 nx0 cx0]) (results_cell_row rfl _ _ w.heap.size 25 #[.string kx0,.string tx0,.int .i64 fx0,.int .i64 ex0,.slice ax0 nx0 cx0] (0,0) _ (by rfl) hp Tryz.underlying25 rfl (by kernel_rfl)) rfl ?_;rw [← HQ.out];refine reads_end hd (HM1.out.trans (HM8.out.mono HM1.out.size)) HR8.out HAT.out.1 HAT.out.2 ?_ ⟨Nat.le_refl _,Nat.le_refl _⟩;have hsz:=HM1.out.size;refine ⟨_,_,_,_,_,_,_,rfl,HNNx0.out,fun p j hpj=>?_⟩;obtain ⟨j',hj'⟩:=HPO.out p j hpj;obtain ⟨u1,u2⟩:=HVx0.out p j' hj';refine ⟨u1,?_⟩;have s1:Mv w8.heap.size d w8 V8:=HSx0.out.trans (HDx0_8.out.mono HSx0.out.size)
       exact u2.later (R':=fun g=>w.heap.size<g) (s1.still (Nat.le_refl _) (fun g hg=>by have:=HLx0.out;omega)) (fun g hg=>by have:=HLx0.out;omega)
     ·skip
      have hb:b=false∧isT L kReturn i=true:=by simpa using HRR.out
      obtain ⟨rfl,his⟩:=hb;have hil:i<L.length:=isT_lt his;obtain ⟨m,rfl⟩:∃ m,n=m+1:=⟨n - 1,by have:=HN.out (by trivial);omega⟩;have hfu:=HN.out rfl
      have HOR:Hid (O=if comesT L 5 (i+1)∨isT L [125] (i+1) then part L kReturn [] fr [] (i+1) else (expr L m 0 (i+1)).next fun e j=>part L kReturn [] fr [e] j):=hid (by
       rw [← HO.out,← HFR.out,start_false,stmt_succ,if_neg (by rw [show isT L kVar i=false by simpa using HRV.out];decide),if_neg (by rw [show isT L kIf i=false by simpa using HRI.out];decide),if_neg (by rw [show isT L [123] i=false by simpa using HRB.out];decide),if_neg (by rw [show isT L kFor i=false by simpa using HRF.out];decide),if_pos his])
      have HFst:Hid (Fol L (i+1) false (Out.ok () (i+1):Out Unit)):=hid ⟨Nat.le_refl _,hil,fun _=>rfl⟩;have HIS:=hid his;clear his
      go_wp2_with fail
      refine c7.mono ?_;intro x w7 h9;obtain ⟨rfl,hw9⟩:=h9.went HR6.out;have HM7:=hid (HM6.out.trans (hw9.2.mono HM6.out.size));have HR7:=hid hw9.1;clear c7 h9 hw9;have ct:=take_any d L lv i false kReturn w7 HR7.out (HT1.out.mv HM7.out (Nat.le_refl _)) (by omega);rw [show (!false&&isT L kReturn i)=true from HIS.out,show bstr kReturn=⟨#[114,101,116,117,114,110]⟩ from rfl] at ct
      go_wp2_with fail
      refine ct.mono ?_;rintro x w8 ⟨rfl,hw9⟩;have hw9:Went d lv (i+1) false w7 w8:=hw9;have HM8:=hid (HM7.out.trans (hw9.2.mono HM7.out.size));have HR8:=hid hw9.1;clear ct hw9;have c5:=comes_any d L lv (i+1) false 5 w8 HR8.out (HT1.out.mv HM8.out (Nat.le_refl _));obtain ⟨R5,hR5⟩:∃ R,comesT L 5 (i+1)=R:=⟨_,rfl⟩;rw [show (!false&&comesT L 5 (i+1))=R5 from hR5] at c5;have H5:=hid hR5;clear hR5
      cases R5
      ·go_wp2_with fail
       refine c5.mono ?_;intro x w9 h9;obtain ⟨rfl,hw9⟩:=h9.went HR8.out;have HM9:=hid (HM8.out.trans (hw9.2.mono HM8.out.size));have HR9:=hid hw9.1;have c6:=is_any d L lv (i+1) false [125] w9 HR9.out (HT1.out.mv HM9.out (Nat.le_refl _));rw [show bstr [125]=⟨#[125]⟩ from rfl] at c6;obtain ⟨R6,hR6⟩:∃ R,isT L [125] (i+1)=R:=⟨_,rfl⟩;rw [show (!false&&isT L [125] (i+1))=R6 from hR6] at c6;have H6:=hid hR6;clear c5 h9 hw9 hR6
       cases R6
       ·obtain ⟨oe,hoe⟩:∃ u,start false (i+1) (expr L m 0 (i+1))=u:=⟨_,rfl⟩
        have HOO:Hid (O=oe.next fun e j=>part L kReturn [] fr [e] j):=hid (by
         rw [HOR.out,if_neg (by rw [H5.out,H6.out];decide),← hoe,start_false])
        have HFoe:Hid (Fol L (i+1) false oe):=hid (by rw [← hoe];exact .begun hil ((all_fwd m).expr _ hil 0).toFw);have HAT:Hid (O.at=oe.at∧O.isBad=oe.isBad):=hid (by rw [HOO.out];cases oe <;> exact ⟨rfl,rfl⟩)
        have HPL:Hid (∀ p j,O=.ok p j→∃ K T yx0,p=.mk K T fr (toT L oe.at) [yx0]∧bstr K=⟨#[114,101,116,117,114,110]⟩∧bstr T=⟨#[]⟩∧∃ jx0,oe=.ok yx0 jx0):=hid (by
         intro p j hpj;rw [HOO.out] at hpj
         cases oe with
         | bad j=>cases hpj
         | ok a j2 =>
          simp only [Out.next,part,Out.ok.injEq] at hpj
          exact ⟨_,_,_,hpj.1.symm,rfl,rfl,_,rfl⟩)
        have Hoe:=hid hoe;clear hoe
        go_wp2_with fail
        refine c6.mono ?_;intro x w10 h9;obtain ⟨rfl,hw9⟩:=h9.went HR9.out;have HM10:=hid (HM9.out.trans (hw9.2.mono HM9.out.size));have HR10:=hid hw9.1;clear c6 h9 hw9;have c11:=expr_any d L lv hL m 0 (i+1) false w10 HR10.out (HT1.out.mv HM10.out (Nat.le_refl _)) HFst.out.le (fun _=>by have:=HFst.out.ge;omega);rw [Hoe.out] at c11
        go_wp2_with fail
        refine c11.mono ?_;rintro x w11 ⟨v,rfl,⟨kx0,tx0,fx0,ex0,ax0,nx0,cx0,rfl,hnnx0,hvx0⟩,hw11⟩;have HVx0:=hid hvx0;have HNNx0:=hid hnnx0;clear hnnx0;have HWx0:=hid hw11;clear c11 hvx0 hw11
        go_upto_region 18 with fail
        obtain ⟨qx0,hqx0⟩:∃ q,w11.heap.size=q:=⟨_,rfl⟩;obtain ⟨V11,hV11⟩:∃ V,w11.alloc (.cells #[.string kx0,.string tx0,.int .i64 fx0,.int .i64 ex0,.slice ax0 nx0 cx0] 25)=V:=⟨_,rfl⟩
        have hb11:Below w11.heap.size w11 V11:=by rw [← hV11];exact (Below.refl _ w11).alloc (Nat.le_refl _) _
        have HBx0:Hid (V11.heap[qx0]?=some (.cells #[.string kx0,.string tx0,.int .i64 fx0,.int .i64 ex0,.slice ax0 nx0 cx0] 25 (0,0))):=hid (by rw [← hV11,← hqx0];exact heap_alloc_new w11 _);have HSx0:Hid (Mv w11.heap.size d w11 V11):=hid (Mv.of_below hb11);have HLx0:Hid (W1.heap.size≤w10.heap.size∧w10.heap.size≤w11.heap.size∧qx0=w11.heap.size):=hid ⟨HM10.out.size,HWx0.out.2.size,hqx0.symm⟩;rw [hV11,hqx0];have HM11:=hid ((HM10.out.trans (HWx0.out.2.mono HM10.out.size)).trans ((Mv.of_below hb11).mono (Nat.le_trans HM10.out.size HWx0.out.2.size)));have HR11:=hid (HWx0.out.1.below hb11)
        skip
        clear hV11 hb11 hqx0;have HDx0_11:Hid (Mv V11.heap.size d V11 V11):=hid (Mv.refl _ _ _);have hzx0:=(HDx0_11.out.block qx0 (Array.getElem?_eq_some_iff.1 HBx0.out).1 (by have:=HLx0.out;have:=HM1.out.size;omega)).trans HBx0.out;obtain ⟨⟨l0x0,l1x0,l2x0,l3x0,l4x0⟩,-⟩:=five_cells hzx0;have HZx0:=hid hzx0;clear hzx0;obtain ⟨z,hz⟩:∃ z,V11.heap.size=z:=⟨_,rfl⟩;obtain ⟨Z,hZ⟩:∃ Z,V11.alloc (.cells #[.string kx0,.string tx0,.int .i64 fx0,.int .i64 ex0,.slice ax0 nx0 cx0] 25)=Z:=⟨_,rfl⟩
        have hzb:Below V11.heap.size V11 Z:=by rw [← hZ];exact (Below.refl _ V11).alloc (Nat.le_refl _) _
        have HZQ:Hid (Z.heap[z]?=some (.cells #[.string kx0,.string tx0,.int .i64 fx0,.int .i64 ex0,.slice ax0 nx0 cx0] 25 (0,0))):=hid (by rw [← hZ,← hz];exact heap_alloc_new V11 _);have HMZ:=hid (HM11.out.trans ((Mv.of_below hzb).mono HM11.out.size));have HRZ:=hid (HR11.out.below hzb);have HZB:=hid (Mv.of_below (d:=d) hzb);have HZ:=hid hz;have cz:=part_any d L lv oe.at oe.isBad ⟨#[114,101,116,117,114,110]⟩ ⟨#[]⟩ fr (some ⟨z,0,none⟩) 1 1 Z HRZ.out (HT1.out.mv HMZ.out (Nat.le_refl _)) HFoe.out.le hL;obtain ⟨ez,hez⟩:∃ e,toT L oe.at=e:=⟨_,rfl⟩;rw [hez] at cz;have HEZ:=hid hez;rw [← hz] at cz;clear hzb hez hz
        go_wp2_with fail
        try rw [hZ]
        refine cz.mono ?_;rintro x w7 ⟨rfl,hw7⟩;have HM7:=hid (HMZ.out.trans (hw7.2.mono HMZ.out.size));have hqw:=(Array.getElem?_eq_some_iff.1 HQ1.out).1;have hq7:w7.heap[w.heap.size]?=_:=(HM7.out.block w.heap.size hqw (by omega)).trans HQ1.out;obtain ⟨⟨r0,r1,r2,r3,r4⟩,gz⟩:=five_cells hq7;have g0:=gz 0;have g1:=gz 1;have g2:=gz 2;have g3:=gz 3;have g4:=gz 4;have HQ7:=hid hq7;have HW7:=hid hw7;have HZE:=hid hZ;clear cz hw7 hq7 gz hZ l0x0 l1x0 l2x0 l3x0 l4x0
        go_wp2_with fail
        have hp:=set_row5 (a':=.string ⟨#[114,101,116,117,114,110]⟩) (b':=.string ⟨#[]⟩) (c':=.int .i64 fr) (d':=.int .i64 ez) (e':=.slice (some ⟨V11.heap.size,0,none⟩) 1 1) HQ7.out;refine bodyPost_ret (v:=.agg #[.string ⟨#[114,101,116,117,114,110]⟩,.string ⟨#[]⟩,.int .i64 fr,.int .i64 ez,.slice (some ⟨V11.heap.size,0,none⟩) 1 1]) (results_cell_row rfl _ _ w.heap.size 25 #[.string ⟨#[114,101,116,117,114,110]⟩,.string ⟨#[]⟩,.int .i64 fr,.int .i64 ez,.slice (some ⟨V11.heap.size,0,none⟩) 1 1] (0,0) _ (by rfl) hp Tryz.underlying25 rfl (by kernel_rfl)) rfl ?_;rw [← HQ.out];refine reads_end hd (HM1.out.trans (HM7.out.mono HM1.out.size)) HW7.out.1 HAT.out.1 HAT.out.2 ?_ ⟨Nat.le_refl _,Nat.le_refl _⟩;have hsz:=HM1.out.size;have hz7:w7.heap[z]?=_:=(HW7.out.2.block z (Array.getElem?_eq_some_iff.1 HZQ.out).1 (by have:=HM11.out.size;have:=HZ.out;omega)).trans HZQ.out;rw [HZ.out];refine partV_row hz7 (by have:=HM11.out.size;have:=HZ.out;omega) (fun p j hpj=>?_) (by omega) (Nat.le_refl _);obtain ⟨K,T,yx0,h0,hK,hT,jx0,hx0⟩:=HPL.out p j hpj;refine ⟨K,T,[yx0],by rw [← HEZ.out];exact h0,hK,hT,rfl,?_⟩;obtain ⟨ux0,kx0'⟩:=HVx0.out yx0 jx0 hx0;have sx0:Mv w11.heap.size d w11 w7:=HSx0.out.trans (((HDx0_11.out.trans (HZB.out.mono HDx0_11.out.size)).trans (HW7.out.2.mono (Nat.le_trans HDx0_11.out.size HZB.out.size))).mono HSx0.out.size);have ix0:=kx0'.later (R':=fun g=>w.heap.size<g) (sx0.still (Nat.le_refl _) (fun g hg=>by have:=HLx0.out;omega)) (fun g hg=>by have:=HLx0.out;omega)
        show PartsIn w7 _ _ ([.string kx0,.string tx0,.int .i64 fx0,.int .i64 ex0,.slice ax0 nx0 cx0]++[])
        rw [five_of ux0]
        exact ⟨_,_,rfl,ix0,rfl⟩
       ·skip
        have HOO:Hid (O=part L kReturn [] fr [] (i+1)):=hid (by rw [HOR.out,if_pos (.inr H6.out)]);have HAT:Hid (O.at=i+1∧O.isBad=false):=hid (by rw [HOO.out];exact ⟨rfl,rfl⟩)
        have HPV:Hid (∀ {W:World} {R:Nat→Prop} (ez:Int),toT L (i+1)=ez→PartV W R O (.agg #[.string ⟨#[114,101,116,117,114,110]⟩,.string ⟨#[]⟩,.int .i64 fr,.int .i64 ez,.slice none 0 0])):=hid (by
         intro ez hez;refine ⟨_,_,_,_,_,_,_,rfl,by omega,fun p j hpj=>?_⟩;rw [HOO.out] at hpj;simp only [part,Out.ok.injEq] at hpj;obtain ⟨rfl,rfl⟩:=hpj;rw [hez]
         exact ⟨rfl,kids_none _ _ _ _ _ _⟩)
        go_wp2_with fail
        refine c6.mono ?_;intro x w10 h9;obtain ⟨rfl,hw9⟩:=h9.went HR9.out;have HM10:=hid (HM9.out.trans (hw9.2.mono HM9.out.size));have HR10:=hid hw9.1;clear c6 h9 hw9;have HMZ:=HM10;have cz:=part_any d L lv (i+1) false ⟨#[114,101,116,117,114,110]⟩ ⟨#[]⟩ fr none 0 0 w10 HR10.out (HT1.out.mv HM10.out (Nat.le_refl _)) HFst.out.le hL;obtain ⟨ez,hez⟩:∃ e,toT L (i+1)=e:=⟨_,rfl⟩;rw [hez] at cz;have HEZ:=hid hez;clear hez
        go_wp2_with fail
        refine cz.mono ?_;rintro x w7 ⟨rfl,hw7⟩;have HM7:=hid (HMZ.out.trans (hw7.2.mono HMZ.out.size));have hqw:=(Array.getElem?_eq_some_iff.1 HQ1.out).1;have hq7:w7.heap[w.heap.size]?=_:=(HM7.out.block w.heap.size hqw (by omega)).trans HQ1.out;obtain ⟨⟨r0,r1,r2,r3,r4⟩,gz⟩:=five_cells hq7;have g0:=gz 0;have g1:=gz 1;have g2:=gz 2;have g3:=gz 3;have g4:=gz 4;have HQ7:=hid hq7;have HW7:=hid hw7;clear cz hw7 hq7 gz
        go_wp2_with fail
        have hp:=set_row5 (a':=.string ⟨#[114,101,116,117,114,110]⟩) (b':=.string ⟨#[]⟩) (c':=.int .i64 fr) (d':=.int .i64 ez) (e':=.slice none 0 0) HQ7.out;refine bodyPost_ret (v:=.agg #[.string ⟨#[114,101,116,117,114,110]⟩,.string ⟨#[]⟩,.int .i64 fr,.int .i64 ez,.slice none 0 0]) (results_cell_row rfl _ _ w.heap.size 25 #[.string ⟨#[114,101,116,117,114,110]⟩,.string ⟨#[]⟩,.int .i64 fr,.int .i64 ez,.slice none 0 0] (0,0) _ (by rfl) hp Tryz.underlying25 rfl (by kernel_rfl)) rfl ?_;rw [← HQ.out];refine reads_end hd (HM1.out.trans (HM7.out.mono HM1.out.size)) HW7.out.1 HAT.out.1 HAT.out.2 ?_ ⟨Nat.le_refl _,Nat.le_refl _⟩
        exact HPV.out _ HEZ.out
      ·skip
       have HOO:Hid (O=part L kReturn [] fr [] (i+1)):=hid (by rw [HOR.out,if_pos (.inl H5.out)]);have HAT:Hid (O.at=i+1∧O.isBad=false):=hid (by rw [HOO.out];exact ⟨rfl,rfl⟩)
       have HPV:Hid (∀ {W:World} {R:Nat→Prop} (ez:Int),toT L (i+1)=ez→PartV W R O (.agg #[.string ⟨#[114,101,116,117,114,110]⟩,.string ⟨#[]⟩,.int .i64 fr,.int .i64 ez,.slice none 0 0])):=hid (by
        intro ez hez;refine ⟨_,_,_,_,_,_,_,rfl,by omega,fun p j hpj=>?_⟩;rw [HOO.out] at hpj;simp only [part,Out.ok.injEq] at hpj;obtain ⟨rfl,rfl⟩:=hpj;rw [hez]
        exact ⟨rfl,kids_none _ _ _ _ _ _⟩)
       go_wp2_with fail
       refine c5.mono ?_;intro x w9 h9;obtain ⟨rfl,hw9⟩:=h9.went HR8.out;have HM9:=hid (HM8.out.trans (hw9.2.mono HM8.out.size));have HR9:=hid hw9.1;clear c5 h9 hw9;have HMZ:=HM9;have cz:=part_any d L lv (i+1) false ⟨#[114,101,116,117,114,110]⟩ ⟨#[]⟩ fr none 0 0 w9 HR9.out (HT1.out.mv HM9.out (Nat.le_refl _)) HFst.out.le hL;obtain ⟨ez,hez⟩:∃ e,toT L (i+1)=e:=⟨_,rfl⟩;rw [hez] at cz;have HEZ:=hid hez;clear hez
       go_wp2_with fail
       refine cz.mono ?_;rintro x w7 ⟨rfl,hw7⟩;have HM7:=hid (HMZ.out.trans (hw7.2.mono HMZ.out.size));have hqw:=(Array.getElem?_eq_some_iff.1 HQ1.out).1;have hq7:w7.heap[w.heap.size]?=_:=(HM7.out.block w.heap.size hqw (by omega)).trans HQ1.out;obtain ⟨⟨r0,r1,r2,r3,r4⟩,gz⟩:=five_cells hq7;have g0:=gz 0;have g1:=gz 1;have g2:=gz 2;have g3:=gz 3;have g4:=gz 4;have HQ7:=hid hq7;have HW7:=hid hw7;clear cz hw7 hq7 gz
       go_wp2_with fail
       have hp:=set_row5 (a':=.string ⟨#[114,101,116,117,114,110]⟩) (b':=.string ⟨#[]⟩) (c':=.int .i64 fr) (d':=.int .i64 ez) (e':=.slice none 0 0) HQ7.out;refine bodyPost_ret (v:=.agg #[.string ⟨#[114,101,116,117,114,110]⟩,.string ⟨#[]⟩,.int .i64 fr,.int .i64 ez,.slice none 0 0]) (results_cell_row rfl _ _ w.heap.size 25 #[.string ⟨#[114,101,116,117,114,110]⟩,.string ⟨#[]⟩,.int .i64 fr,.int .i64 ez,.slice none 0 0] (0,0) _ (by rfl) hp Tryz.underlying25 rfl (by kernel_rfl)) rfl ?_;rw [← HQ.out];refine reads_end hd (HM1.out.trans (HM7.out.mono HM1.out.size)) HW7.out.1 HAT.out.1 HAT.out.2 ?_ ⟨Nat.le_refl _,Nat.le_refl _⟩
       exact HPV.out _ HEZ.out
    ·skip
     have hb:b=false∧isT L kFor i=true:=by simpa using HRF.out
     obtain ⟨rfl,his⟩:=hb;have hil:i<L.length:=isT_lt his;obtain ⟨m,rfl⟩:∃ m,n=m+1:=⟨n - 1,by have:=HN.out (by trivial);omega⟩;have hfu:=HN.out rfl;obtain ⟨oe,hoe⟩:∃ u,start false (i+1) (expr L m 0 (i+1))=u:=⟨_,rfl⟩;obtain ⟨ob,hob⟩:∃ u,start oe.isBad oe.at (block L m oe.at)=u:=⟨_,rfl⟩
     have HOO:Hid (O=ob.next fun _ k=>part L kFor [] fr [oe.pt,ob.pt] k):=hid (by
      rw [← HO.out,← HFR.out,start_false,stmt_succ,if_neg (by rw [show isT L kVar i=false by simpa using HRV.out];decide),if_neg (by rw [show isT L kIf i=false by simpa using HRI.out];decide),if_neg (by rw [show isT L [123] i=false by simpa using HRB.out];decide),if_pos his,← hob,← start_false (i+1) (expr L m 0 (i+1)),hoe]
      cases oe with
      | bad j=>rfl
      | ok e j =>
       show ((block L m j).next fun b k=>part L kFor [] (fromT L i) [e,b] k)=(block L m j).next fun _ k=>part L kFor [] (fromT L i) [e,(block L m j).pt] k
       cases block L m j <;> rfl)
     have HFst:Hid (Fol L (i+1) false (Out.ok () (i+1):Out Unit)):=hid ⟨Nat.le_refl _,hil,fun _=>rfl⟩;have HFoe:Hid (Fol L (i+1) false oe):=hid (by rw [← hoe];exact .begun hil ((all_fwd m).expr _ hil 0).toFw);have HFob:Hid (Fol L (i+1) false ob):=hid (by rw [← hob];exact HFoe.out.step ((all_fwdS L m).block _ HFoe.out.le).toFw);have HAT:Hid (O.at=ob.at∧O.isBad=ob.isBad):=hid (by rw [HOO.out];cases ob <;> exact ⟨rfl,rfl⟩)
     have HPL:Hid (∀ p j,O=.ok p j→∃ K T yx0 yx1,p=.mk K T fr (toT L ob.at) [yx0,yx1]∧bstr K=⟨#[102,111,114]⟩∧bstr T=⟨#[]⟩∧∃ jx0,oe=.ok yx0 jx0∧∃ jx1,ob=.ok yx1 jx1):=hid (by
      intro p j hpj;rw [HOO.out] at hpj
      cases hb:ob.isBad
      ·have h1:=out_pt hb
       have h2:=hb;rw [← hob] at h2;have h3:=out_pt (start_so h2).1;rw [h1] at hpj;simp only [Out.next,part,Out.ok.injEq] at hpj
       exact ⟨_,_,_,_,hpj.1.symm,rfl,rfl,_,h3,_,h1⟩
      ·cases ob with
       | ok a j=>cases hb
       | bad j=>cases hpj)
     have HIS:=hid his;have Hoe:=hid hoe;have Hob:=hid hob;clear his hoe hob
     go_wp2_with fail
     refine c6.mono ?_;intro x w6 h9;obtain ⟨rfl,hw9⟩:=h9.went HR5.out;have HM6:=hid (HM5.out.trans (hw9.2.mono HM5.out.size));have HR6:=hid hw9.1;clear c6 h9 hw9;have ct:=take_any d L lv i false kFor w6 HR6.out (HT1.out.mv HM6.out (Nat.le_refl _)) (by omega);rw [show (!false&&isT L kFor i)=true from HIS.out,show bstr kFor=⟨#[102,111,114]⟩ from rfl] at ct
     go_wp2_with fail
     refine ct.mono ?_;rintro x w7 ⟨rfl,hw9⟩;have hw9:Went d lv (i+1) false w6 w7:=hw9;have HM7:=hid (HM6.out.trans (hw9.2.mono HM6.out.size));have HR7:=hid hw9.1;clear ct hw9;have c8:=expr_any d L lv hL m 0 (i+1) false w7 HR7.out (HT1.out.mv HM7.out (Nat.le_refl _)) HFst.out.le (fun _=>by have:=HFst.out.ge;omega);rw [Hoe.out] at c8
     go_wp2_with fail
     refine c8.mono ?_;rintro x w8 ⟨v,rfl,⟨kx0,tx0,fx0,ex0,ax0,nx0,cx0,rfl,hnnx0,hvx0⟩,hw8⟩;have HVx0:=hid hvx0;have HNNx0:=hid hnnx0;clear hnnx0;have HWx0:=hid hw8;clear c8 hvx0 hw8
     go_upto_region 11 with fail
     obtain ⟨qx0,hqx0⟩:∃ q,w8.heap.size=q:=⟨_,rfl⟩;obtain ⟨V8,hV8⟩:∃ V,w8.alloc (.cells #[.string kx0,.string tx0,.int .i64 fx0,.int .i64 ex0,.slice ax0 nx0 cx0] 25)=V:=⟨_,rfl⟩
     have hb8:Below w8.heap.size w8 V8:=by rw [← hV8];exact (Below.refl _ w8).alloc (Nat.le_refl _) _
     have HBx0:Hid (V8.heap[qx0]?=some (.cells #[.string kx0,.string tx0,.int .i64 fx0,.int .i64 ex0,.slice ax0 nx0 cx0] 25 (0,0))):=hid (by rw [← hV8,← hqx0];exact heap_alloc_new w8 _);have HSx0:Hid (Mv w8.heap.size d w8 V8):=hid (Mv.of_below hb8);have HLx0:Hid (W1.heap.size≤w7.heap.size∧w7.heap.size≤w8.heap.size∧qx0=w8.heap.size):=hid ⟨HM7.out.size,HWx0.out.2.size,hqx0.symm⟩;rw [hV8,hqx0];have HM8:=hid ((HM7.out.trans (HWx0.out.2.mono HM7.out.size)).trans ((Mv.of_below hb8).mono (Nat.le_trans HM7.out.size HWx0.out.2.size)));have HR8:=hid (HWx0.out.1.below hb8)
     skip
     clear hV8 hb8 hqx0;have HDx0_8:Hid (Mv V8.heap.size d V8 V8):=hid (Mv.refl _ _ _);have c9:=HIB.out m rfl oe.at oe.isBad V8 HR8.out (HT1.out.mv HM8.out (Nat.le_refl _)) HFoe.out.le (fun _=>by have:=HFoe.out.ge;omega);rw [Hob.out] at c9
     go_wp2_with fail
     refine c9.mono ?_;rintro x w9 ⟨v,rfl,⟨kx1,tx1,fx1,ex1,ax1,nx1,cx1,rfl,hnnx1,hvx1⟩,hw9⟩;have HVx1:=hid hvx1;have HNNx1:=hid hnnx1;clear hnnx1;have HWx1:=hid hw9;clear c9 hvx1 hw9
     go_upto_region 12 with fail
     obtain ⟨qx1,hqx1⟩:∃ q,w9.heap.size=q:=⟨_,rfl⟩;obtain ⟨V9,hV9⟩:∃ V,w9.alloc (.cells #[.string kx1,.string tx1,.int .i64 fx1,.int .i64 ex1,.slice ax1 nx1 cx1] 25)=V:=⟨_,rfl⟩
     have hb9:Below w9.heap.size w9 V9:=by rw [← hV9];exact (Below.refl _ w9).alloc (Nat.le_refl _) _
     have HBx1:Hid (V9.heap[qx1]?=some (.cells #[.string kx1,.string tx1,.int .i64 fx1,.int .i64 ex1,.slice ax1 nx1 cx1] 25 (0,0))):=hid (by rw [← hV9,← hqx1];exact heap_alloc_new w9 _);have HSx1:Hid (Mv w9.heap.size d w9 V9):=hid (Mv.of_below hb9);have HLx1:Hid (W1.heap.size≤V8.heap.size∧V8.heap.size≤w9.heap.size∧qx1=w9.heap.size):=hid ⟨HM8.out.size,HWx1.out.2.size,hqx1.symm⟩;rw [hV9,hqx1];have HM9:=hid ((HM8.out.trans (HWx1.out.2.mono HM8.out.size)).trans ((Mv.of_below hb9).mono (Nat.le_trans HM8.out.size HWx1.out.2.size)));have HR9:=hid (HWx1.out.1.below hb9);have HDx0_9:=hid (HDx0_8.out.trans ((HWx1.out.2.trans ((Mv.of_below hb9).mono HWx1.out.2.size)).mono HDx0_8.out.size));clear hV9 hb9 hqx1;have HDx1_9:Hid (Mv V9.heap.size d V9 V9):=hid (Mv.refl _ _ _);have hzx0:=(HDx0_9.out.block qx0 (Array.getElem?_eq_some_iff.1 HBx0.out).1 (by have:=HLx0.out;have:=HM1.out.size;omega)).trans HBx0.out;obtain ⟨⟨l0x0,l1x0,l2x0,l3x0,l4x0⟩,-⟩:=five_cells hzx0;have HZx0:=hid hzx0;clear hzx0;have hzx1:=(HDx1_9.out.block qx1 (Array.getElem?_eq_some_iff.1 HBx1.out).1 (by have:=HLx1.out;have:=HM1.out.size;omega)).trans HBx1.out;obtain ⟨⟨l0x1,l1x1,l2x1,l3x1,l4x1⟩,-⟩:=five_cells hzx1;have HZx1:=hid hzx1;clear hzx1;obtain ⟨z,hz⟩:∃ z,V9.heap.size=z:=⟨_,rfl⟩;obtain ⟨Z,hZ⟩:∃ Z,V9.alloc (.cells #[.string kx0,.string tx0,.int .i64 fx0,.int .i64 ex0,.slice ax0 nx0 cx0,.string kx1,.string tx1,.int .i64 fx1,.int .i64 ex1,.slice ax1 nx1 cx1] 25)=Z:=⟨_,rfl⟩
     have hzb:Below V9.heap.size V9 Z:=by rw [← hZ];exact (Below.refl _ V9).alloc (Nat.le_refl _) _
     have HZQ:Hid (Z.heap[z]?=some (.cells #[.string kx0,.string tx0,.int .i64 fx0,.int .i64 ex0,.slice ax0 nx0 cx0,.string kx1,.string tx1,.int .i64 fx1,.int .i64 ex1,.slice ax1 nx1 cx1] 25 (0,0))):=hid (by rw [← hZ,← hz];exact heap_alloc_new V9 _);have HMZ:=hid (HM9.out.trans ((Mv.of_below hzb).mono HM9.out.size));have HRZ:=hid (HR9.out.below hzb);have HZB:=hid (Mv.of_below (d:=d) hzb);have HZ:=hid hz;have cz:=part_any d L lv ob.at ob.isBad ⟨#[102,111,114]⟩ ⟨#[]⟩ fr (some ⟨z,0,none⟩) 2 2 Z HRZ.out (HT1.out.mv HMZ.out (Nat.le_refl _)) HFob.out.le hL;obtain ⟨ez,hez⟩:∃ e,toT L ob.at=e:=⟨_,rfl⟩;rw [hez] at cz;have HEZ:=hid hez;rw [← hz] at cz;clear hzb hez hz
     go_wp2_with fail
     try rw [hZ]
     refine cz.mono ?_;rintro x w7 ⟨rfl,hw7⟩;have HM7:=hid (HMZ.out.trans (hw7.2.mono HMZ.out.size));have hqw:=(Array.getElem?_eq_some_iff.1 HQ1.out).1;have hq7:w7.heap[w.heap.size]?=_:=(HM7.out.block w.heap.size hqw (by omega)).trans HQ1.out;obtain ⟨⟨r0,r1,r2,r3,r4⟩,gz⟩:=five_cells hq7;have g0:=gz 0;have g1:=gz 1;have g2:=gz 2;have g3:=gz 3;have g4:=gz 4;have HQ7:=hid hq7;have HW7:=hid hw7;have HZE:=hid hZ;clear cz hw7 hq7 gz hZ l0x0 l1x0 l2x0 l3x0 l4x0 l0x1 l1x1 l2x1 l3x1 l4x1
     go_wp2_with fail
     have hp:=set_row5 (a':=.string ⟨#[102,111,114]⟩) (b':=.string ⟨#[]⟩) (c':=.int .i64 fr) (d':=.int .i64 ez) (e':=.slice (some ⟨V9.heap.size,0,none⟩) 2 2) HQ7.out;refine bodyPost_ret (v:=.agg #[.string ⟨#[102,111,114]⟩,.string ⟨#[]⟩,.int .i64 fr,.int .i64 ez,.slice (some ⟨V9.heap.size,0,none⟩) 2 2]) (results_cell_row rfl _ _ w.heap.size 25 #[.string ⟨#[102,111,114]⟩,.string ⟨#[]⟩,.int .i64 fr,.int .i64 ez,.slice (some ⟨V9.heap.size,0,none⟩) 2 2] (0,0) _ (by rfl) hp Tryz.underlying25 rfl (by kernel_rfl)) rfl ?_;rw [← HQ.out];refine reads_end hd (HM1.out.trans (HM7.out.mono HM1.out.size)) HW7.out.1 HAT.out.1 HAT.out.2 ?_ ⟨Nat.le_refl _,Nat.le_refl _⟩;have hsz:=HM1.out.size;have hz7:w7.heap[z]?=_:=(HW7.out.2.block z (Array.getElem?_eq_some_iff.1 HZQ.out).1 (by have:=HM9.out.size;have:=HZ.out;omega)).trans HZQ.out;rw [HZ.out];refine partV_row hz7 (by have:=HM9.out.size;have:=HZ.out;omega) (fun p j hpj=>?_) (by omega) (Nat.le_refl _);obtain ⟨K,T,yx0,yx1,h0,hK,hT,jx0,hx0,jx1,hx1⟩:=HPL.out p j hpj;refine ⟨K,T,[yx0,yx1],by rw [← HEZ.out];exact h0,hK,hT,rfl,?_⟩;obtain ⟨ux0,kx0'⟩:=HVx0.out yx0 jx0 hx0;have sx0:Mv w8.heap.size d w8 w7:=HSx0.out.trans (((HDx0_9.out.trans (HZB.out.mono HDx0_9.out.size)).trans (HW7.out.2.mono (Nat.le_trans HDx0_9.out.size HZB.out.size))).mono HSx0.out.size);have ix0:=kx0'.later (R':=fun g=>w.heap.size<g) (sx0.still (Nat.le_refl _) (fun g hg=>by have:=HLx0.out;omega)) (fun g hg=>by have:=HLx0.out;omega);obtain ⟨ux1,kx1'⟩:=HVx1.out yx1 jx1 hx1
     have sx1:Mv w9.heap.size d w9 w7:=HSx1.out.trans (((HDx1_9.out.trans (HZB.out.mono HDx1_9.out.size)).trans (HW7.out.2.mono (Nat.le_trans HDx1_9.out.size HZB.out.size))).mono HSx1.out.size);have ix1:=kx1'.later (R':=fun g=>w.heap.size<g) (sx1.still (Nat.le_refl _) (fun g hg=>by have:=HLx1.out;omega)) (fun g hg=>by have:=HLx1.out;omega)
     show PartsIn w7 _ _ ([.string kx0,.string tx0,.int .i64 fx0,.int .i64 ex0,.slice ax0 nx0 cx0]++[.string kx1,.string tx1,.int .i64 fx1,.int .i64 ex1,.slice ax1 nx1 cx1]++[])
     rw [five_of ux0,five_of ux1];simp only [List.append_assoc]
     exact ⟨_,_,rfl,ix0,⟨_,_,rfl,ix1,rfl⟩⟩
   ·skip
    have hb:b=false∧isT L [123] i=true:=by simpa using HRB.out
    obtain ⟨rfl,his⟩:=hb;have hil:i<L.length:=isT_lt his;obtain ⟨m,rfl⟩:∃ m,n=m+1:=⟨n - 1,by have:=HN.out (by trivial);omega⟩;have hfu:=HN.out rfl
    have HOO:Hid (O=block L m i):=hid (by
     rw [← HO.out,start_false,stmt_succ,if_neg (by rw [show isT L kVar i=false by simpa using HRV.out];decide),if_neg (by rw [show isT L kIf i=false by simpa using HRI.out];decide),if_pos his])
    clear his
    go_wp2_with fail
    refine c5.mono ?_;intro x w5 h9;obtain ⟨rfl,hw9⟩:=h9.went HR4.out;have HM5:=hid (HM4.out.trans (hw9.2.mono HM4.out.size));have HR5:=hid hw9.1;clear c5 h9 hw9;have cc:=HIB.out m rfl i false w5 HR5.out (HT1.out.mv HM5.out (Nat.le_refl _)) hi (fun _=>by omega);rw [start_false,← HOO.out] at cc
    go_wp2_with fail
    refine cc.mono ?_;rintro x w9 ⟨v,rfl,⟨kx,tx,fx,ex,ax,nx,cx,rfl,hnx,hvx⟩,hw9⟩;have HM9:=hid (HM5.out.trans (hw9.2.mono HM5.out.size));have hqw:=(Array.getElem?_eq_some_iff.1 HQ1.out).1;have hq7:w9.heap[w.heap.size]?=_:=(HM9.out.block w.heap.size hqw (by omega)).trans HQ1.out;obtain ⟨⟨r0,r1,r2,r3,r4⟩,gz⟩:=five_cells hq7;have g0:=gz 0;have g1:=gz 1;have g2:=gz 2;have g3:=gz 3;have g4:=gz 4;have HQ7:=hid hq7;have HR9:=hid hw9.1;have HVX:=hid hvx;clear cc hw9 hq7 gz hvx
    go_wp2_with fail
    have hp:=set_row5 (a':=.string kx) (b':=.string tx) (c':=.int .i64 fx) (d':=.int .i64 ex) (e':=.slice ax nx cx) HQ7.out;refine bodyPost_ret (v:=.agg #[.string kx,.string tx,.int .i64 fx,.int .i64 ex,.slice ax nx cx]) (results_cell_row rfl _ _ w.heap.size 25 #[.string kx,.string tx,.int .i64 fx,.int .i64 ex,.slice ax nx cx] (0,0) _ (by rfl) hp Tryz.underlying25 rfl (by kernel_rfl)) rfl ?_;rw [← HQ.out];refine reads_end hd (HM1.out.trans (HM9.out.mono HM1.out.size)) HR9.out rfl rfl ?_ ⟨Nat.le_refl _,Nat.le_refl _⟩;have hsz:=HM1.out.size;have hsz2:=HM5.out.size
    exact ⟨_,_,_,_,_,_,_,rfl,hnx,fun p j hpj=>⟨(HVX.out p j hpj).1,(HVX.out p j hpj).2.later (fun _ _ _=>rfl) (fun g hg=>by omega)⟩⟩
  ·skip
   have hb:b=false∧isT L kIf i=true:=by simpa using HRI.out
   obtain ⟨rfl,his⟩:=hb;have hil:i<L.length:=isT_lt his;obtain ⟨m,rfl⟩:∃ m,n=m+1:=⟨n - 1,by have:=HN.out (by trivial);omega⟩;have hfu:=HN.out rfl
   have HOO:Hid (O=branch L m i):=hid (by
    rw [← HO.out,start_false,stmt_succ,if_neg (by rw [show isT L kVar i=false by simpa using HRV.out];decide),if_pos his])
   clear his
   go_wp2_with fail
   refine c4.mono ?_;intro x w4 h9;obtain ⟨rfl,hw9⟩:=h9.went HR3.out;have HM4:=hid (HM3.out.trans (hw9.2.mono HM3.out.size));have HR4:=hid hw9.1;clear c4 h9 hw9;have cc:=HI.out m rfl i false w4 HR4.out (HT1.out.mv HM4.out (Nat.le_refl _)) hi (fun _=>by omega);rw [start_false,← HOO.out] at cc
   go_wp2_with fail
   refine cc.mono ?_;rintro x w9 ⟨v,rfl,⟨kx,tx,fx,ex,ax,nx,cx,rfl,hnx,hvx⟩,hw9⟩;have HM9:=hid (HM4.out.trans (hw9.2.mono HM4.out.size));have hqw:=(Array.getElem?_eq_some_iff.1 HQ1.out).1;have hq7:w9.heap[w.heap.size]?=_:=(HM9.out.block w.heap.size hqw (by omega)).trans HQ1.out;obtain ⟨⟨r0,r1,r2,r3,r4⟩,gz⟩:=five_cells hq7;have g0:=gz 0;have g1:=gz 1;have g2:=gz 2;have g3:=gz 3;have g4:=gz 4;have HQ7:=hid hq7;have HR9:=hid hw9.1;have HVX:=hid hvx;clear cc hw9 hq7 gz hvx
   go_wp2_with fail
   have hp:=set_row5 (a':=.string kx) (b':=.string tx) (c':=.int .i64 fx) (d':=.int .i64 ex) (e':=.slice ax nx cx) HQ7.out;refine bodyPost_ret (v:=.agg #[.string kx,.string tx,.int .i64 fx,.int .i64 ex,.slice ax nx cx]) (results_cell_row rfl _ _ w.heap.size 25 #[.string kx,.string tx,.int .i64 fx,.int .i64 ex,.slice ax nx cx] (0,0) _ (by rfl) hp Tryz.underlying25 rfl (by kernel_rfl)) rfl ?_;rw [← HQ.out];refine reads_end hd (HM1.out.trans (HM9.out.mono HM1.out.size)) HR9.out rfl rfl ?_ ⟨Nat.le_refl _,Nat.le_refl _⟩;have hsz:=HM1.out.size;have hsz2:=HM4.out.size
   exact ⟨_,_,_,_,_,_,_,rfl,hnx,fun p j hpj=>⟨(HVX.out p j hpj).1,(HVX.out p j hpj).2.later (fun _ _ _=>rfl) (fun g hg=>by omega)⟩⟩
 ·skip
  have hb:b=false∧isT L kVar i=true:=by simpa using HRV.out
  obtain ⟨rfl,his⟩:=hb;have hil:i<L.length:=isT_lt his;obtain ⟨m,rfl⟩:∃ m,n=m+1:=⟨n - 1,by have:=HN.out (by trivial);omega⟩;have hfu:=HN.out rfl
  have HOO:Hid (O=variable' L m i):=hid (by
   rw [← HO.out,start_false,stmt_succ,if_pos his])
  clear his
  go_wp2_with fail
  refine c3.mono ?_;intro x w3 h9;obtain ⟨rfl,hw9⟩:=h9.went HR2.out;have HM3:=hid (HM2.out.trans (hw9.2.mono HM2.out.size));have HR3:=hid hw9.1;clear c3 h9 hw9;have cc:=variable_any d L lv hL m i false w3 HR3.out (HT1.out.mv HM3.out (Nat.le_refl _)) hi (fun _=>by omega);rw [start_false,← HOO.out] at cc
  go_wp2_with fail
  refine cc.mono ?_;rintro x w9 ⟨v,rfl,⟨kx,tx,fx,ex,ax,nx,cx,rfl,hnx,hvx⟩,hw9⟩;have HM9:=hid (HM3.out.trans (hw9.2.mono HM3.out.size));have hqw:=(Array.getElem?_eq_some_iff.1 HQ1.out).1;have hq7:w9.heap[w.heap.size]?=_:=(HM9.out.block w.heap.size hqw (by omega)).trans HQ1.out;obtain ⟨⟨r0,r1,r2,r3,r4⟩,gz⟩:=five_cells hq7;have g0:=gz 0;have g1:=gz 1;have g2:=gz 2;have g3:=gz 3;have g4:=gz 4;have HQ7:=hid hq7;have HR9:=hid hw9.1;have HVX:=hid hvx;clear cc hw9 hq7 gz hvx
  go_wp2_with fail
  have hp:=set_row5 (a':=.string kx) (b':=.string tx) (c':=.int .i64 fx) (d':=.int .i64 ex) (e':=.slice ax nx cx) HQ7.out;refine bodyPost_ret (v:=.agg #[.string kx,.string tx,.int .i64 fx,.int .i64 ex,.slice ax nx cx]) (results_cell_row rfl _ _ w.heap.size 25 #[.string kx,.string tx,.int .i64 fx,.int .i64 ex,.slice ax nx cx] (0,0) _ (by rfl) hp Tryz.underlying25 rfl (by kernel_rfl)) rfl ?_;rw [← HQ.out];refine reads_end hd (HM1.out.trans (HM9.out.mono HM1.out.size)) HR9.out rfl rfl ?_ ⟨Nat.le_refl _,Nat.le_refl _⟩;have hsz:=HM1.out.size;have hsz2:=HM3.out.size
  exact ⟨_,_,_,_,_,_,_,rfl,hnx,fun p j hpj=>⟨(HVX.out p j hpj).1,(HVX.out p j hpj).2.later (fun _ _ _=>rfl) (fun g hg=>by omega)⟩⟩
theorem good_stmts (d:Nat) (L:List TokP) (lv:Value) (hL:L.length≤1000000) (n:Nat):BlockAt d L lv n∧BranchAt d L lv n∧StmtAt d L lv n:=by
 induction n using Nat.strongRecOn with
 | _ n ih =>
  have hB:BlockAt d L lv n:=block_step d L lv hL n (fun m hm=>(ih m hm).2.2);refine ⟨hB,branch_step d L lv hL n (fun m hm=>?_) (fun m hm=>(ih m (by omega)).2.1),stmt_step d L lv hL n (fun m hm=>(ih m (by omega)).1) (fun m hm=>(ih m (by omega)).2.1)⟩
  by_cases h:m<n
  ·exact (ih m h).1
  ·obtain rfl:m=n:=by omega
   exact hB
theorem block_any (d:Nat) (L:List TokP) (lv:Value) (hL:L.length≤1000000) (n:Nat):BlockAt d L lv n:=(good_stmts d L lv hL n).1
end Go.Proofs.YtmclaaonlhnbmaaGreatDoor.T
namespace Go.Proofs.YtmclaaonlhnbmaaGreatDoor.T
open Go.RowKit
open Go.Lib hiding intOf
open U S L
theorem fields_succ (L:List TokP) (M n i:Nat) (acc:List Pt):fields L M (n+1) i acc=if isT L [125] i then .ok acc i
  else (param L M kField i).next fun p j=>if semiN L j=0∧isT L [125] j=false then .bad j else fields L M n (j+semiN L j) (acc++[p]):=rfl
theorem fields_fwd (L:List TokP) (M:Nat):∀ (n i:Nat) (acc:List Pt),i≤L.length→Fw L i (fields L M n i acc)
 | 0,i,acc,hi=>⟨Nat.le_refl _,hi⟩
 | n+1,i,acc,hi=>by
  rw [fields_succ]
  split
  ·exact .ok (Nat.le_refl _) hi _
  ·refine ((param_fwd M kField hi).next fun p j _ _ hj=>?_).toFw
   split
   ·exact ⟨Nat.le_refl _,hj⟩
   ·exact (fields_fwd L M n _ _ (semi_le L hj)).mono (Nat.le_add_right _ _)
def Out.by':Out By→By
 | .ok s _=>s
 | .bad _=>[]
theorem by_bad {o:Out By} (h:o.isBad=false):∃ j,o=.ok o.by' j:=by
 cases o with
 | ok s j=>exact ⟨j,rfl⟩
 | bad j=>cases h
set_option maxHeartbeats 16000000 in
set_option maxRecDepth 20000 in
theorem record_any (d:Nat) (L:List TokP) (lv:Value) (hL:L.length≤1000000) (n i:Nat) (b:Bool) (w:World) (hR:Rd d lv i b w) (hT:Tk d L lv w) (hi:i≤L.length) (hn:b=false→8*(L.length - i)+5≤n) :
  Calls Tryz.prog 24 #[.pointer (some ⟨d,0,none⟩)] w (Reads d lv (start b i (record L n i)) w):=by
 obtain ⟨O,hO⟩:∃ O,start b i (record L n i)=O:=⟨_,rfl⟩;have HO:=hid hO;rw [hO];clear hO;have hd:=hR.lt;obtain ⟨W1,hW1⟩:∃ W1,w.alloc zeroP=W1:=⟨_,rfl⟩
 have hb1:Below w.heap.size w W1:=by rw [← hW1];exact (Below.refl _ w).alloc (Nat.le_refl _) _
 have HM1:=hid (Mv.of_below (d:=d) hb1)
 have hq1:W1.heap[w.heap.size]?=some (.cells #[.string ⟨#[]⟩,.string ⟨#[]⟩,.int .i64 0,.int .i64 0,.slice none 0 0] 25 (0,0)):=by rw [← hW1];exact heap_alloc_new w _
 have hR1:Rd d lv i b W1:=hR.below hb1;have hT1:=hT.mv (Mv.of_below hb1) (Nat.le_refl _);have c1:=from_any d L lv i b W1 hR1 hT1;obtain ⟨fr,hfr⟩:∃ fr,fromT L i=fr:=⟨_,rfl⟩;rw [hfr] at c1;have HFR:=hid hfr;have HW1:=hid hW1;have HQ1:=hid hq1;have HR1:=hid hR1;have HT1:=hid hT1;have HT0:=hid hT;have HN:=hid hn;obtain ⟨Q,hQ⟩:∃ Q,Reads d lv O w=Q:=⟨_,rfl⟩;have HQ:=hid hQ;rw [hQ];clear hW1 hq1 hb1 hR1 hT1 hfr hn hQ hR hT
 go_enter Tryz.func24,Tryz.ntmps24
 go_wp2_with fail
 rw [HW1.out];refine c1.mono ?_;intro x w2 h2;obtain ⟨rfl,hw2⟩:=h2.went HR1.out;have HM2:=hid hw2.2;have HR2:=hid hw2.1;clear c1 h2 hw2;obtain ⟨om,hom⟩:∃ u,start b i (mustT L kType i)=u:=⟨_,rfl⟩;obtain ⟨nm,hnm⟩:∃ u,start om.isBad om.at (nameT L om.at)=u:=⟨_,rfl⟩;obtain ⟨os,hos⟩:∃ u,start nm.isBad nm.at (mustT L kStruct nm.at)=u:=⟨_,rfl⟩;obtain ⟨ox,hox⟩:∃ u,start os.isBad os.at (mustT L [123] os.at)=u:=⟨_,rfl⟩;obtain ⟨se0,hse0⟩:∃ u,ox.at+(if ox.isBad then 0 else semiN L ox.at)=u:=⟨_,rfl⟩;obtain ⟨OL,hOL⟩:∃ u,start ox.isBad se0 (fields L n n se0 [])=u:=⟨_,rfl⟩;obtain ⟨sv,hsv⟩:∃ u,nameV nm=u:=⟨_,rfl⟩;have HFst:Hid (Fol L i b (start b i (Out.ok () i:Out Unit))):=hid (.begun hi ⟨Nat.le_refl _,hi⟩);have HFom:Hid (Fol L i b om):=hid (by rw [← hom];exact .begun hi (mustT_fwd _ hi).toFw);have HFnm:Hid (Fol L i b nm):=hid (by rw [← hnm];exact HFom.out.step (nameT_fwd HFom.out.le).toFw);have HFos:Hid (Fol L i b os):=hid (by rw [← hos];exact HFnm.out.step (mustT_fwd _ HFnm.out.le).toFw);have HFox:Hid (Fol L i b ox):=hid (by rw [← hox];exact HFos.out.step (mustT_fwd _ HFos.out.le).toFw)
 have HGox:Hid (ox.isBad=false→1≤ox.at∧b=false):=hid (fun h=>by
  refine ⟨?_,HFox.out.so h⟩;rw [← hox] at h ⊢;obtain ⟨h1,h2⟩:=start_so h;rw [h2] at h ⊢;have:=(mustT_fwd [123] HFos.out.le).gt h
  omega)
 have HSE:Hid (se0≤L.length∧ox.at≤se0):=hid (by
  have h1:=HFox.out.le
  cases hb:ox.isBad
  ·rw [hb,if_neg (by decide)] at hse0
   have:=semi_le L h1
   omega
  ·rw [hb,if_pos rfl] at hse0
   omega)
 have HFOL:Hid (OL.at≤L.length):=hid (by
  rw [← hOL]
  cases ox.isBad
  ·exact (fields_fwd L n n se0 [] HSE.out.1).le
  ·exact HSE.out.1)
 obtain ⟨om2,hom2⟩:∃ u,start OL.isBad OL.at (mustT L [125] OL.at)=u:=⟨_,rfl⟩
 have HFm2:Hid (om2.at≤L.length):=hid (by
  rw [← hom2]
  cases OL.isBad
  ·exact (mustT_fwd _ HFOL.out).le
  ·exact HFOL.out)
 have HO3:Hid (O=OL.next fun l k=>(mustT L [125] k).next fun _ q=>part L kType nm.by' fr l q):=hid (by
  rw [← HO.out,← hOL,← HFR.out]
  have h0:start b i (record L n i)=om.next fun _ j=>(nameT L j).next fun s k=>(mustT L kStruct k).next fun _ m=>(mustT L [123] m).next fun _ o=>(fields L n n (o+semiN L o) []).next fun l q=>(mustT L [125] q).next fun _ r=>part L kType s (fromT L i) l r:=by
   rw [← hom,← start_next];rfl
  rw [h0]
  cases om with
  | bad j=>subst hnm;subst hos;subst hox;subst hse0;rfl
  | ok u j =>
   have hnm:nameT L j=nm:=hnm
   show ((nameT L j).next _)=_
   rw [hnm]
   cases nm with
   | bad j=>subst hos;subst hox;subst hse0;rfl
   | ok s k =>
    have hos:mustT L kStruct k=os:=hos
    show ((mustT L kStruct k).next _)=_
    rw [hos]
    cases os with
    | bad j=>subst hox;subst hse0;rfl
    | ok u k2 =>
     have hox:mustT L [123] k2=ox:=hox
     show ((mustT L [123] k2).next _)=_
     rw [hox]
     cases ox with
     | bad j=>subst hse0;rfl
     | ok u k3=>subst hse0;rfl)
 have HNM:Hid (OL.isBad=false→nm.isBad=false):=hid (fun h=>by
  rw [← hOL] at h;have h:=(start_so h).1;rw [← hox] at h;have h:=(start_so h).1;rw [← hos] at h
  exact (start_so h).1)
 have HAT:Hid (O.at=om2.at∧O.isBad=om2.isBad):=hid (by rw [HO3.out];exact list_must hom2)
 have HPLL:Hid (∀ p j,O=.ok p j→∃ K T ks j',p=.mk K T fr (toT L om2.at) ks∧bstr K=⟨#[116,121,112,101]⟩∧bstr T=sv∧OL=.ok ks j'):=hid (by
  intro p j hpj;rw [HO3.out] at hpj;obtain ⟨ks,j',h1,h2⟩:=list_must_ok hom2 hpj;refine ⟨_,_,ks,j',h1,rfl,?_,h2⟩;obtain ⟨j2,h3⟩:=by_bad (HNM.out (by rw [h2];rfl));rw [← hsv]
  rw [h3];rfl)
 obtain ⟨iP,hi0,hz0,hz1,hz2⟩:=info_partsT infoPT;have Hom:=hid hom;have Hnm:=hid hnm;have Hsv:=hid hsv;have Hos:=hid hos;have Hox:=hid hox;have Hse0:=hid hse0;have HOL:=hid hOL;have Hom2:=hid hom2;clear hom hnm hsv hos hox hse0 hOL hom2;have c3:=must_any d L lv i b kType w2 HR2.out (HT1.out.mv HM2.out (Nat.le_refl _)) (by have:=HFst.out.le;omega);rw [Hom.out,show bstr kType=⟨#[116,121,112,101]⟩ from rfl] at c3
 go_wp2_with fail
 refine c3.mono ?_;rintro x w3 ⟨rfl,hw3⟩;have HM3:=hid (HM2.out.trans (hw3.2.mono HM2.out.size));have HR3:=hid hw3.1
 skip
 clear c3 hw3;have c4:=name_any10 d L lv om.at om.isBad w3 HR3.out (HT1.out.mv HM3.out (Nat.le_refl _)) (by have:=HFom.out.le;omega);rw [Hnm.out,Hsv.out] at c4
 go_wp2_with fail
 refine c4.mono ?_;rintro x w4 ⟨rfl,hw4⟩;have HM4:=hid (HM3.out.trans (hw4.2.mono HM3.out.size));have HR4:=hid hw4.1
 skip
 clear c4 hw4;have c5:=must_any d L lv nm.at nm.isBad kStruct w4 HR4.out (HT1.out.mv HM4.out (Nat.le_refl _)) (by have:=HFnm.out.le;omega);rw [Hos.out,show bstr kStruct=⟨#[115,116,114,117,99,116]⟩ from rfl] at c5
 go_wp2_with fail
 refine c5.mono ?_;rintro x w5 ⟨rfl,hw5⟩;have HM5:=hid (HM4.out.trans (hw5.2.mono HM4.out.size));have HR5:=hid hw5.1
 skip
 clear c5 hw5;have c6:=must_any d L lv os.at os.isBad [123] w5 HR5.out (HT1.out.mv HM5.out (Nat.le_refl _)) (by have:=HFos.out.le;omega);rw [Hox.out,show bstr [123]=⟨#[123]⟩ from rfl] at c6
 go_wp2_with fail
 refine c6.mono ?_;rintro x w6 ⟨rfl,hw6⟩;have HM6:=hid (HM5.out.trans (hw6.2.mono HM5.out.size));have HR6:=hid hw6.1
 skip
 clear c6 hw6;have c7:=semis_any d L lv ox.at ox.isBad w6 HR6.out (HT1.out.mv HM6.out (Nat.le_refl _)) HFox.out.le hL;rw [Hse0.out] at c7;obtain ⟨RS7,hRS7⟩:∃ R,decide (0<(if ox.isBad then 0 else semiN L ox.at))=R:=⟨_,rfl⟩;rw [hRS7] at c7;clear hRS7
 go_wp2_with fail
 refine c7.mono ?_;rintro x w7 ⟨rfl,hw7⟩;have HM7:=hid (HM6.out.trans (hw7.2.mono HM6.out.size));have HR7:=hid hw7.1;clear c7 hw7
 have HINV:Hid (LoopInv d L lv W1 OL (fun m j l=>fields L n m j l) 0 n false (start ox.isBad se0 (.ok [] se0)) (.slice none 0 0) 0 [] n w7):=hid (by
  have h1:(start ox.isBad se0 (.ok [] se0:Out (List Pt))).at=se0:=by cases ox.isBad <;> rfl
  have h2:(start ox.isBad se0 (.ok [] se0:Out (List Pt))).isBad=ox.isBad:=by cases ox.isBad <;> rfl
  refine ⟨?_,by rw [h1,h2];exact HR7.out,HM7.out,(ListV.nil _ se0 _).out (fun l j h=>?_),by rw [h1];exact HSE.out.1,Nat.zero_le _,?_,fun _ hb=>?_⟩
  ·rw [if_neg (by decide),← HOL.out]
   cases ox.isBad <;> rfl
  ·cases hb:ox.isBad
   ·rw [hb] at h
    cases h
    exact ⟨_,rfl⟩
   ·rw [hb] at h
    cases h
  ·rw [h1,h2]
   cases hb:ox.isBad
   ·have:=(HGox.out hb).1
    have:=HSE.out.2;rw [if_neg (by decide)];omega
   ·rw [if_pos rfl];omega
  ·rw [h1]
   rw [h2] at hb;obtain ⟨h3,h4⟩:=HGox.out hb;have h6:=HN.out h4;have h7:=HSE.out.2;have h8:=HFox.out.ge
   omega)
 go_wp2_with fail
 go_loopw [5] (fun av wr=>∃ (o:Out (List Pt)) (v:Value) (nn:Nat) (xs:List Value) (mm:Nat),av=v∧Hid (LoopInv d L lv W1 OL (fun m j l=>fields L n m j l) 0 (n) false o v nn xs mm wr)) (fun _ wr=>(L.length+1 - atR d wr)*2+goodR d wr)
 case atStart=>exact ⟨_,_,0,[],_,rfl,HINV⟩
 case round =>
  clear HINV;obtain ⟨o,v,nn,xs,mm,rfl,HIN⟩:=hrel;obtain ⟨la,lc,hav⟩:=HIN.out.list.form;subst hav;have ci:=is_any d L lv o.at o.isBad [125] wr HIN.out.rd (HT1.out.mv HIN.out.mv (Nat.le_refl _));rw [show bstr [125]=⟨#[125]⟩ from rfl] at ci
  cases hob:o.isBad
  ·rw [hob] at ci
   obtain ⟨R4,hR4⟩:∃ R,isT L [125] o.at=R:=⟨_,rfl⟩;rw [show (!false&&isT L [125] o.at)=R4 from hR4] at ci
   cases R4
   ·have HRo:Hid (Rd d lv o.at false wr):=hid (by rw [← hob];exact HIN.out.rd)
    have H4:=hid hR4
    go_wp2_with (fail)
    refine ci.mono ?_;intro x w4 h4;obtain ⟨rfl,hw4⟩:=h4.went HRo.out;have hc2:=hw4.1.c2;have HW4:=hid hw4;clear ci h4 hw4 hR4;obtain ⟨l,hl⟩:=out_ok hob;obtain ⟨oa,hoa⟩:∃ u,o.at=u:=⟨_,rfl⟩;rw [hoa] at hl;subst hl;have hfu2:=HIN.out.fuel rfl rfl;have hle:oa≤L.length:=HIN.out.le;have hcn:nn+1≤oa:=HIN.out.cnt;have hfu3:8*(L.length - oa)+5≤mm:=hfu2.1;have hfu4:mm≤n:=hfu2.2;obtain ⟨m',rfl⟩:∃ m',mm=m'+1:=⟨mm - 1,by omega⟩;obtain ⟨ob,hobb⟩:∃ u,start false oa (param L n kField oa)=u:=⟨_,rfl⟩;have HFb:Hid (Fwd L oa ob):=hid (by rw [← hobb,start_false];exact param_fwd n kField hle)
    have HOUT:Hid (OL=ob.next fun p j=>if semiN L j=0∧isT L [125] j=false then .bad j else fields L n m' (j+semiN L j) (l++[p])):=hid (by
     have h:=HIN.out.out;rw [if_neg (by decide)] at h;rw [h,← hobb,start_false]
     exact (fields_succ L n m' oa l).trans (if_neg (by rw [show isT L [125] oa=false from H4.out];decide)))
    have HLr:Hid (ListV W1.heap.size (.ok l oa) (.slice la nn lc) nn xs w4):=hid (HIN.out.list.mv HW4.out.2 (by have:=HM1.out.size;omega));have HMr:Hid (Mv W1.heap.size d W1 w4):=hid (HIN.out.mv.trans (HW4.out.2.mono HIN.out.mv.size));have HRr:Hid (Rd d lv oa false w4):=hid HW4.out.1;have HTr:=hid (HT1.out.mv HMr.out (Nat.le_refl _));have HAT0:Hid (atR d wr=oa):=hid HIN.out.rd.at;have HGT0:Hid (goodR d wr=1):=hid HIN.out.rd.good;have cb:=param_any d L lv hL n kField oa false w4 HRr.out HTr.out hle (fun _=>by omega);rw [hobb,show bstr kField=⟨#[102,105,101,108,100]⟩ from rfl] at cb;have k2:=HRr.out.c2;clear hobb hfu2 hob hoa
    go_wp2_with fail
    refine cb.mono ?_;rintro x v5 ⟨v,rfl,⟨kb,tb,fb,eb,ab,nb,cb',rfl,hnb,hvb⟩,hw5⟩;have hLx:ListV W1.heap.size (.ok l oa) (.slice la nn lc) nn xs (v5.alloc (.cells #[.string kb,.string tb,.int .i64 fb,.int .i64 eb,.slice ab nb cb'] 25)):=(HLr.out.mv hw5.2 (by have:=HM1.out.size;omega)).mv (Mv.of_below (d:=d) ((Below.refl _ v5).alloc (Nat.le_refl _) _)) (by have:=HM1.out.size;omega);have hbx:Below v5.heap.size v5 (v5.alloc (.cells #[.string kb,.string tb,.int .i64 fb,.int .i64 eb,.slice ab nb cb'] 25)):=(Below.refl _ v5).alloc (Nat.le_refl _) _
    have hsx:W1.heap.size≤(v5.alloc (.cells #[.string kb,.string tb,.int .i64 fb,.int .i64 eb,.slice ab nb cb'] 25)).heap.size:=by have:=hw5.2.size;have:=HMr.out.size;have:=hbx.size;omega
    have HVB:=hid hvb;have HW5:=hid hw5;have HLx:=hid hLx;have HBx:=hid hbx;clear cb hvb hw5 hLx hbx hnb k2
    go_wp2_with (at_builtin;refine wpList_append_own_at _ rfl _ _ 23 rfl W1.heap.size 25 iP _ 5 72 Tryz.underlying23 hi0 hz0 hz1 hz2 rfl (by decide) _ nn xs rfl HLx.out.own ⟨v5.heap.size,0,none⟩ 1 1 [.string kb,.string tb,.int .i64 fb,.int .i64 eb,.slice ab nb cb'] rfl rfl (row_news (heap_alloc_new v5 _)) one_part (by unfold maxLen;omega) (by omega) hsx ?_)
    intro v' w7 hown hgrow _ hrow0
    have hrow:v'.ownBlock=(Value.slice la nn lc).ownBlock∨v'.ownBlock=some (v5.alloc (.cells #[.string kb,.string tb,.int .i64 fb,.int .i64 eb,.slice ab nb cb'] 25)).heap.size:=by simpa using hrow0
    clear hrow0
    have HL7:Hid (∀ o':Out (List Pt),(∀ l' j',o'=.ok l' j'→∃ p jp,ob=.ok p jp∧l'=l++[p])→ListV W1.heap.size o' v' (nn+1) (xs++[.string kb,.string tb,.int .i64 fb,.int .i64 eb,.slice ab nb cb']) w7):=hid (fun o' ho'=>HLx.out.snoc HLr.out (Nat.le_refl _) HMr.out.size HVB.out HBx.out hown hgrow hrow (fun l' j' hl'=>by
     obtain ⟨p,jp,h1,h2⟩:=ho' l' j' hl'
     exact ⟨l,oa,p,jp,rfl,h1,h2⟩))
    have hown1:∀ k,(Value.slice la nn lc).ownBlock=some k→W1.heap.size≤k:=fun k hk=>(HLx.out.own.lt k hk).1
    have hd1:d<W1.heap.size:=by have:=HM1.out.size;omega
    have HR7:Hid (Rd d lv ob.at ob.isBad w7):=hid (by
     have h:=HW5.out.1.below HBx.out
     exact (hgrow.block d h.lt (fun h'=>by have:=hown1 d h'.symm;omega)).trans h)
    have HM7:Hid (Mv W1.heap.size d W1 w7):=hid (HMr.out.trans ((HW5.out.2.mono HMr.out.size).trans (((Mv.of_below HBx.out).mono (by have:=HW5.out.2.size;have:=HMr.out.size;omega)).trans ⟨hgrow.os,hgrow.tape,hgrow.output,hgrow.size,fun k hk _=>hgrow.block k (by omega) (fun h'=>by have:=hown1 k h'.symm;omega)⟩)));have c8:=semis_any d L lv ob.at ob.isBad w7 HR7.out (HT1.out.mv HM7.out (Nat.le_refl _)) HFb.out.le hL;obtain ⟨S8,hS8⟩:∃ u,(if ob.isBad then 0 else semiN L ob.at)=u:=⟨_,rfl⟩;rw [hS8] at c8;obtain ⟨p8,hp8⟩:∃ u,ob.at+S8=u:=⟨_,rfl⟩;rw [hp8] at c8
    have HP8:Hid (p8≤L.length∧oa≤p8∧(ob.isBad=false→oa<p8)∧p8=ob.at+S8):=hid (by
     have h1:=HFb.out.ge;have h2:=HFb.out.le;refine ⟨?_,by omega,fun h=>by have:=HFb.out.gt h;omega,hp8.symm⟩
     cases hb:ob.isBad
     ·rw [hb,if_neg (by decide)] at hS8
      have:=semi_le L h2
      omega
     ·rw [hb,if_pos rfl] at hS8
      omega)
    obtain ⟨R9,hR9⟩:∃ R,decide (0<S8)=R:=⟨_,rfl⟩;rw [hR9] at c8;have HS8:=hid hS8;have H9:=hid hR9
    have HGO:Hid (ob.isBad=false→(0<S8∨isT L [125] p8=true)→OL=(Out.ok (l++[ob.pt]) p8).next fun acc k=>fields L n m' k acc):=hid (fun hb h=>by
     rw [HOUT.out];rw [hb,if_neg (by decide)] at hS8;have h1:=out_pt hb;rw [h1];have e1:(Out.ok ob.pt ob.at).at=ob.at:=rfl;have e2:(Out.ok ob.pt ob.at).pt=ob.pt:=rfl
     show (if semiN L ob.at=0∧isT L [125] ob.at=false then _ else _)=_
     rw [if_neg (fun hh=>by
      rcases h with h|h
      ·omega
      ·rw [← hp8,← hS8,hh.1,Nat.add_zero,hh.2] at h;cases h),hS8,hp8]
     rfl)
    have HBD:Hid (¬ 0<S8→(!ob.isBad&&isT L [125] p8)=false→OL=.bad p8):=hid (fun h1 h2=>by
     rw [HOUT.out]
     have h0:S8=0:=by omega
     rw [h0,Nat.add_zero] at hp8
     cases ob with
     | bad j =>
      have hp8:j=p8:=hp8;rw [← hp8];rfl
     | ok a j =>
      have hp8:j=p8:=hp8;have hS8:semiN L j=S8:=hS8
      have h2:isT L [125] p8=false:=by simpa [Out.isBad] using h2
      show (if semiN L j=0∧isT L [125] j=false then _ else _)=_
      rw [if_pos ⟨by omega,by rw [hp8];exact h2⟩,hp8])
    have HL8:Hid (ob.isBad=false→ListV W1.heap.size (Out.ok (l++[ob.pt]) p8) v' (nn+1) (xs++[.string kb,.string tb,.int .i64 fb,.int .i64 eb,.slice ab nb cb']) w7):=hid (fun hb=>HL7.out _ (fun l' j' hl'=>by
     cases hl'
     exact ⟨ob.pt,ob.at,out_pt hb,rfl⟩))
    have HL9:Hid (ListV W1.heap.size (Out.bad p8) v' (nn+1) (xs++[.string kb,.string tb,.int .i64 fb,.int .i64 eb,.slice ab nb cb']) w7):=hid (HL7.out _ (fun l' j' hl'=>by cases hl'));clear hown hgrow hrow hown1 hd1 hR9 hsx hS8 hp8
    cases R9
    ·go_wp2_with fail
     refine c8.mono ?_;rintro x w8 ⟨rfl,hw8⟩;have HM8:=hid (HM7.out.trans (hw8.2.mono HM7.out.size));have HW8:=hid hw8;have c9:=is_any d L lv p8 ob.isBad [125] w8 hw8.1 (HT1.out.mv HM8.out (Nat.le_refl _));rw [show bstr [125]=⟨#[125]⟩ from rfl] at c9;obtain ⟨RX,hRX⟩:∃ R,(!ob.isBad&&isT L [125] p8)=R:=⟨_,rfl⟩;rw [hRX] at c9;have HX:=hid hRX;clear c8 hw8 hRX
     cases RX
     ·go_wp2_with fail
      refine c9.mono ?_;intro x w9 h9;obtain ⟨rfl,hw9⟩:=h9.went HW8.out.1;have HM9:=hid (HM8.out.trans (hw9.2.mono HM8.out.size));have k2:=hw9.1.c2;have f2:=hw9.1.f2;obtain ⟨WE,hWE⟩:∃ W,w9.setCell ⟨d,2,none⟩ (.bool true)=W:=⟨_,rfl⟩
      have hRE:Rd d lv p8 true WE:=by rw [← hWE];exact hw9.1.set2 true
      have hME:Mv w9.heap.size d w9 WE:=by rw [← hWE];exact (Mv.refl _ _ _).setCell 2 _
      have HIN2:Hid (LoopInv d L lv W1 OL (fun m j l=>fields L n m j l) 0 (n) false (Out.bad p8) v' (nn+1) (xs++[.string kb,.string tb,.int .i64 fb,.int .i64 eb,.slice ab nb cb']) m' WE):=hid ⟨by rw [if_neg (by decide)];exact HBD.out (by simpa using H9.out) HX.out,hRE,HM9.out.trans (hME.mono HM9.out.size),((HL9.out.mv HW8.out.2 (by have:=HM1.out.size;omega)).mv hw9.2 (by have:=HM1.out.size;omega)).mv hME (by have:=HM1.out.size;omega),HP8.out.1,Nat.zero_le _,by show nn+1+0≤p8;have:=HP8.out;omega,fun _ hb=>by cases hb⟩;have HMS:Hid (atR d WE=p8∧goodR d WE=0):=hid ⟨hRE.at,hRE.good⟩;clear c9 h9 hw9 hRE hME
      go_wp2_with fail
      go_roundw
      case rel=>exact ⟨_,_,_,_,m',rfl,HIN2⟩
      case measure =>
       rw [HMS.out.1,HMS.out.2,HAT0.out,HGT0.out];have h1:=HP8.out
       omega
     ·have hb9:ob.isBad=false∧isT L [125] p8=true:=by simpa using HX.out
      have HB9:=hid hb9;clear hb9
      go_wp2_with fail
      refine c9.mono ?_;intro x w9 h9;obtain ⟨rfl,hw9⟩:=h9.went HW8.out.1;rw [HB9.out.1] at hw9;have HM9:=hid (HM8.out.trans (hw9.2.mono HM8.out.size));have HIN2:Hid (LoopInv d L lv W1 OL (fun m j l=>fields L n m j l) 0 (n) false (Out.ok (l++[ob.pt]) p8) v' (nn+1) (xs++[.string kb,.string tb,.int .i64 fb,.int .i64 eb,.slice ab nb cb']) m' w9):=hid ⟨by rw [if_neg (by decide)];exact HGO.out HB9.out.1 (.inr HB9.out.2),hw9.1,HM9.out,((HL8.out HB9.out.1).mv HW8.out.2 (by have:=HM1.out.size;omega)).mv hw9.2 (by have:=HM1.out.size;omega),HP8.out.1,Nat.zero_le _,by show nn+1+1≤p8;have:=HP8.out.2.2.1 HB9.out.1;omega,fun _ _=>by show 8*(L.length - p8)+5≤m'∧m'≤n;have:=HP8.out.2.2.1 HB9.out.1;have:=isT_lt HB9.out.2;omega⟩;have HMS:Hid (atR d w9=p8∧goodR d w9=1):=hid ⟨hw9.1.at,hw9.1.good⟩;clear c9 h9 hw9
      go_wp2_with fail
      go_roundw
      case rel=>exact ⟨_,_,_,_,m',rfl,HIN2⟩
      case measure =>
       rw [HMS.out.1,HMS.out.2,HAT0.out,HGT0.out];have h1:=HP8.out.2.2.1 HB9.out.1;have h2:=HP8.out.1
       omega
    ·have hS:0<S8:=by simpa using H9.out
     have hb9:ob.isBad=false:=by
      cases hb:ob.isBad
      ·rfl
      ·have h:=HS8.out
       rw [hb,if_pos rfl] at h
       omega
     have HB9:=hid hb9;have HS:=hid hS;clear hb9 hS
     go_wp2_with fail
     refine c8.mono ?_;rintro x w8 ⟨rfl,hw8⟩;rw [HB9.out] at hw8;have HM8:=hid (HM7.out.trans (hw8.2.mono HM7.out.size));have HIN2:Hid (LoopInv d L lv W1 OL (fun m j l=>fields L n m j l) 0 (n) false (Out.ok (l++[ob.pt]) p8) v' (nn+1) (xs++[.string kb,.string tb,.int .i64 fb,.int .i64 eb,.slice ab nb cb']) m' w8):=hid ⟨by rw [if_neg (by decide)];exact HGO.out HB9.out (.inl HS.out),hw8.1,HM8.out,(HL8.out HB9.out).mv hw8.2 (by have:=HM1.out.size;omega),HP8.out.1,Nat.zero_le _,by show nn+1+1≤p8;have:=HP8.out.2.2.1 HB9.out;omega,fun _ _=>by show 8*(L.length - p8)+5≤m'∧m'≤n;have:=HFb.out.gt HB9.out;have:=HP8.out;have:=HS.out;omega⟩;have HMS:Hid (atR d w8=p8∧goodR d w8=1):=hid ⟨hw8.1.at,hw8.1.good⟩;clear c8 hw8
     go_wp2_with fail
     go_roundw
     case rel=>exact ⟨_,_,_,_,m',rfl,HIN2⟩
     case measure =>
      rw [HMS.out.1,HMS.out.2,HAT0.out,HGT0.out];have h1:=HP8.out.2.2.1 HB9.out;have h2:=HP8.out.1
      omega
   ·have hox:OL=o:=by
     have h:=HIN.out.out;rw [if_neg (by decide)] at h;obtain ⟨l,hl⟩:=out_ok hob;have hfu:=(HIN.out.fuel rfl hob).1;obtain ⟨m',rfl⟩:∃ m',mm=m'+1:=⟨mm - 1,by omega⟩;rw [h];rw [hl] at hR4 ⊢
     exact (fields_succ L n m' o.at l).trans (if_pos hR4)
    have HRo:Hid (Rd d lv o.at o.isBad wr):=hid HIN.out.rd
    go_wp2_with fail
    refine ci.mono ?_;intro x w4 h4;obtain ⟨rfl,hw4⟩:=h4.went HRo.out;have HW4:=hid hw4;clear ci h4 hw4 hR4 hob;subst hox;have HMe:=hid (HIN.out.mv.trans (HW4.out.2.mono HIN.out.mv.size));have HLe:=hid (HIN.out.list.mv HW4.out.2 (by have:=HM1.out.size;omega));have HCe:Hid (nn≤1000000):=hid (by have h1:=HIN.out.cnt;have h2:=HIN.out.le;split at h1 <;> omega);have ce:=must_any d L lv OL.at OL.isBad [125] w4 HW4.out.1 (HT1.out.mv HMe.out (Nat.le_refl _)) (by have:=HIN.out.le;omega);rw [Hom2.out,show bstr [125]=⟨#[125]⟩ from rfl] at ce
    go_wp2_with fail
    refine ce.mono ?_;rintro x we ⟨rfl,hwe⟩;have HMf:=hid (HMe.out.trans (hwe.2.mono HMe.out.size));have HRf:=hid hwe.1;have HLf:=hid (HLe.out.mv hwe.2 (by have:=HM1.out.size;omega));clear ce hwe;have cz:=part_any d L lv om2.at om2.isBad ⟨#[116,121,112,101]⟩ sv fr la nn lc we HRf.out (HT1.out.mv HMf.out (Nat.le_refl _)) HFm2.out hL;obtain ⟨ez,hez⟩:∃ u,toT L om2.at=u:=⟨_,rfl⟩;rw [hez] at cz;have HEZ:=hid hez;clear hez
    go_wp2_with fail
    refine cz.mono ?_;rintro x wq ⟨rfl,hwq⟩;have HMq:=hid (HMf.out.trans (hwq.2.mono HMf.out.size));have HWq:=hid hwq;have hqw:=(Array.getElem?_eq_some_iff.1 HQ1.out).1;have hq7:wq.heap[w.heap.size]?=_:=(HMq.out.block w.heap.size hqw (by omega)).trans HQ1.out;obtain ⟨⟨r0,r1,r2,r3,r4⟩,gz⟩:=five_cells hq7;have g0:=gz 0;have g1:=gz 1;have g2:=gz 2;have g3:=gz 3;have g4:=gz 4;have HQ7:=hid hq7;clear cz hwq hq7 gz
    go_wp2_with fail
    have hp:=set_row5 (a':=.string ⟨#[116,121,112,101]⟩) (b':=.string sv) (c':=.int .i64 fr) (d':=.int .i64 ez) (e':=.slice la nn lc) HQ7.out;refine bodyPost_ret (v:=.agg #[.string ⟨#[116,121,112,101]⟩,.string sv,.int .i64 fr,.int .i64 ez,.slice la nn lc]) (results_cell_row rfl _ _ w.heap.size 25 #[.string ⟨#[116,121,112,101]⟩,.string sv,.int .i64 fr,.int .i64 ez,.slice la nn lc] (0,0) _ (by rfl) hp Tryz.underlying25 rfl (by kernel_rfl)) rfl ?_;rw [← HQ.out];refine reads_end hd (HM1.out.trans (HMq.out.mono HM1.out.size)) HWq.out.1 HAT.out.1 HAT.out.2 ?_ ⟨Nat.le_refl _,Nat.le_refl _⟩;refine partV_list (HLf.out.mv HWq.out.2 (by omega)) (fun g hg=>by omega) (HCe.out) (fun p j hpj=>?_);rw [← HEZ.out]
    exact HPLL.out p j hpj
  ·have hox:OL=o:=by
    rw [HIN.out.out,if_neg (by decide)]
    cases o with
    | ok a j=>cases hob
    | bad j=>rfl
   have HRo:Hid (Rd d lv o.at o.isBad wr):=hid HIN.out.rd;rw [show (!o.isBad&&isT L [125] o.at)=false by rw [hob];rfl] at ci
   go_wp2_with fail
   refine ci.mono ?_;intro x w4 h4;obtain ⟨rfl,hw4⟩:=h4.went HRo.out;have hc2:=hw4.1.c2;rw [hob] at hc2;have HW4:=hid hw4;clear ci h4 hw4 hob;subst hox;have HMe:=hid (HIN.out.mv.trans (HW4.out.2.mono HIN.out.mv.size));have HLe:=hid (HIN.out.list.mv HW4.out.2 (by have:=HM1.out.size;omega));have HCe:Hid (nn≤1000000):=hid (by have h1:=HIN.out.cnt;have h2:=HIN.out.le;split at h1 <;> omega);have ce:=must_any d L lv OL.at OL.isBad [125] w4 HW4.out.1 (HT1.out.mv HMe.out (Nat.le_refl _)) (by have:=HIN.out.le;omega);rw [Hom2.out,show bstr [125]=⟨#[125]⟩ from rfl] at ce
   go_wp2_with fail
   refine ce.mono ?_;rintro x we ⟨rfl,hwe⟩;have HMf:=hid (HMe.out.trans (hwe.2.mono HMe.out.size));have HRf:=hid hwe.1;have HLf:=hid (HLe.out.mv hwe.2 (by have:=HM1.out.size;omega));clear ce hwe;have cz:=part_any d L lv om2.at om2.isBad ⟨#[116,121,112,101]⟩ sv fr la nn lc we HRf.out (HT1.out.mv HMf.out (Nat.le_refl _)) HFm2.out hL;obtain ⟨ez,hez⟩:∃ u,toT L om2.at=u:=⟨_,rfl⟩;rw [hez] at cz;have HEZ:=hid hez;clear hez
   go_wp2_with fail
   refine cz.mono ?_;rintro x wq ⟨rfl,hwq⟩;have HMq:=hid (HMf.out.trans (hwq.2.mono HMf.out.size));have HWq:=hid hwq;have hqw:=(Array.getElem?_eq_some_iff.1 HQ1.out).1;have hq7:wq.heap[w.heap.size]?=_:=(HMq.out.block w.heap.size hqw (by omega)).trans HQ1.out;obtain ⟨⟨r0,r1,r2,r3,r4⟩,gz⟩:=five_cells hq7;have g0:=gz 0;have g1:=gz 1;have g2:=gz 2;have g3:=gz 3;have g4:=gz 4;have HQ7:=hid hq7;clear cz hwq hq7 gz
   go_wp2_with fail
   have hp:=set_row5 (a':=.string ⟨#[116,121,112,101]⟩) (b':=.string sv) (c':=.int .i64 fr) (d':=.int .i64 ez) (e':=.slice la nn lc) HQ7.out;refine bodyPost_ret (v:=.agg #[.string ⟨#[116,121,112,101]⟩,.string sv,.int .i64 fr,.int .i64 ez,.slice la nn lc]) (results_cell_row rfl _ _ w.heap.size 25 #[.string ⟨#[116,121,112,101]⟩,.string sv,.int .i64 fr,.int .i64 ez,.slice la nn lc] (0,0) _ (by rfl) hp Tryz.underlying25 rfl (by kernel_rfl)) rfl ?_;rw [← HQ.out];refine reads_end hd (HM1.out.trans (HMq.out.mono HM1.out.size)) HWq.out.1 HAT.out.1 HAT.out.2 ?_ ⟨Nat.le_refl _,Nat.le_refl _⟩;refine partV_list (HLf.out.mv HWq.out.2 (by omega)) (fun g hg=>by omega) (HCe.out) (fun p j hpj=>?_);rw [← HEZ.out]
   exact HPLL.out p j hpj
end Go.Proofs.YtmclaaonlhnbmaaGreatDoor.T
