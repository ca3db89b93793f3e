/- What the claim needs of the texts TBlock, TBranch. -/
import Derived.Test.YtmclaaonlhnbmaaGreatDoorROp
import Derived.Test.YtmclaaonlhnbmaaGreatDoorR16
namespace Go.Proofs.YtmclaaonlhnbmaaGreatDoor.T
open Go.RowKit
open Go.Lib hiding intOf
open U S L
def BlockAt (d:Nat) (L:List TokP) (lv:Value) (n:Nat):Prop:=∀ (i:Nat) (b:Bool) (w:World),Rd d lv i b w→Tk d L lv w→i≤L.length→(b=false→8*(L.length - i)+3≤n) →
 Calls Tryz.prog 51 #[.pointer (some ⟨d,0,none⟩)] w (Reads d lv (start b i (block L n i)) w)
def StmtAt (d:Nat) (L:List TokP) (lv:Value) (n:Nat):Prop:=∀ (i:Nat) (b:Bool) (w:World),Rd d lv i b w→Tk d L lv w→i≤L.length→(b=false→8*(L.length - i)+4≤n) →
 Calls Tryz.prog 100 #[.pointer (some ⟨d,0,none⟩)] w (Reads d lv (start b i (stmt L n i)) w)
set_option maxHeartbeats 16000000 in
set_option maxRecDepth 20000 in
theorem block_step (d:Nat) (L:List TokP) (lv:Value) (hL:L.length≤1000000) (n:Nat) (ih:∀ m,m<n→StmtAt d L lv m):BlockAt d L lv n:=by
 intro i b w hR hT hi hn;obtain ⟨O,hO⟩:∃ O,start b i (block L n i)=O:=⟨_,rfl⟩;have HO:=hid hO;have HI:=hid ih;rw [hO];clear hO ih;have hd:=hR.lt;obtain ⟨W1,hW1⟩:∃ W1,w.alloc zeroP=W1:=⟨_,rfl⟩
 have hb1:Below w.heap.size w W1:=by rw [← hW1];exact (Below.refl _ w).alloc (Nat.le_refl _) _
 have HM1:=hid (Mv.of_below (d:=d) hb1)
 have hq1:W1.heap[w.heap.size]?=some (.cells #[.string ⟨#[]⟩,.string ⟨#[]⟩,.int .i64 0,.int .i64 0,.slice none 0 0] 25 (0,0)):=by rw [← hW1];exact heap_alloc_new w _
 have hR1:Rd d lv i b W1:=hR.below hb1;have hT1:=hT.mv (Mv.of_below hb1) (Nat.le_refl _);have c1:=from_any d L lv i b W1 hR1 hT1;obtain ⟨fr,hfr⟩:∃ fr,fromT L i=fr:=⟨_,rfl⟩;rw [hfr] at c1;have HFR:=hid hfr;have HW1:=hid hW1;have HQ1:=hid hq1;have HR1:=hid hR1;have HT1:=hid hT1;have HT0:=hid hT;have HN:=hid hn;obtain ⟨Q,hQ⟩:∃ Q,Reads d lv O w=Q:=⟨_,rfl⟩;have HQ:=hid hQ;rw [hQ];clear hW1 hq1 hb1 hR1 hT1 hfr hn hQ hR hT
 go_enter Tryz.func51,Tryz.ntmps51
 go_wp2_with fail
 rw [HW1.out];refine c1.mono ?_;intro x w2 h2;obtain ⟨rfl,hw2⟩:=h2.went HR1.out;have HM2:=hid hw2.2;have HR2:=hid hw2.1;clear c1 h2 hw2;obtain ⟨om,hom⟩:∃ u,start b i (mustT L [123] i)=u:=⟨_,rfl⟩;obtain ⟨se0,hse0⟩:∃ u,om.at+(if om.isBad then 0 else semiN L om.at)=u:=⟨_,rfl⟩
 obtain ⟨m,hm⟩:∃ m,(b=false→n=m+1)∧(b=true→m=0):=by
  cases b
  ·exact ⟨n - 1,fun _=>by have:=HN.out rfl;omega,fun h=>by cases h⟩
  ·exact ⟨0,fun h=>by (cases h),fun _=>rfl⟩
 obtain ⟨OL,hOL⟩:∃ u,start om.isBad se0 (stmts L m se0 [])=u:=⟨_,rfl⟩;have HFst:Hid (Fol L i b (start b i (Out.ok () i:Out Unit))):=hid (.begun hi ⟨Nat.le_refl _,hi⟩);have HFom:Hid (Fol L i b om):=hid (by rw [← hom];exact .begun hi (mustT_fwd _ hi).toFw)
 have HGom:Hid (om.isBad=false→om.at=i+1∧b=false):=hid (by
  rw [← hom]
  cases b
  ·rw [start_false]
   unfold mustT
   cases isT L [123] i
   ·intro h;cases h
   ·exact fun _=>⟨rfl,rfl⟩
  ·intro h;cases h)
 have HSE:Hid (se0≤L.length∧om.at≤se0):=hid (by
  have h1:=HFom.out.le
  cases hb:om.isBad
  ·rw [hb,if_neg (by decide)] at hse0
   have:=semi_le L h1
   omega
  ·rw [hb,if_pos rfl] at hse0
   omega)
 have HFOL:Hid (OL.at≤L.length):=hid (by
  rw [← hOL]
  cases om.isBad
  ·exact ((all_fwdS L m).stmts se0 HSE.out.1 []).le
  ·exact HSE.out.1)
 obtain ⟨om2,hom2⟩:∃ u,start OL.isBad OL.at (mustT L [125] OL.at)=u:=⟨_,rfl⟩
 have HFm2:Hid (om2.at≤L.length):=hid (by
  rw [← hom2]
  cases OL.isBad
  ·exact (mustT_fwd _ HFOL.out).le
  ·exact HFOL.out)
 have HO3:Hid (O=OL.next fun l k=>(mustT L [125] k).next fun _ q=>part L kBlock [] fr l q):=hid (by
  rw [← HO.out,← hOL,← HFR.out]
  cases b
  ·have hm1:=hm.1 rfl
   subst hm1;rw [start_false,block_succ];have hom:mustT L [123] i=om:=hom;rw [hom]
   cases om with
   | bad j =>
    have:j=se0:=hse0;rw [← this];rfl
   | ok u j =>
    have:j+semiN L j=se0:=hse0;rw [← this];rfl
  ·rw [← hse0,← hom];rfl)
 have HAT:Hid (O.at=om2.at∧O.isBad=om2.isBad):=hid (by rw [HO3.out];exact list_must hom2)
 have HPLL:Hid (∀ p j,O=.ok p j→∃ K T ks j',p=.mk K T fr (toT L om2.at) ks∧bstr K=⟨#[98,108,111,99,107]⟩∧bstr T=⟨#[]⟩∧OL=.ok ks j'):=hid (by
  intro p j hpj;rw [HO3.out] at hpj;obtain ⟨ks,j',h1,h2⟩:=list_must_ok hom2 hpj
  exact ⟨_,_,ks,j',h1,rfl,rfl,h2⟩)
 obtain ⟨iP,hi0,hz0,hz1,hz2⟩:=info_partsT infoPT;have Hom:=hid hom;have Hse0:=hid hse0;have HOL:=hid hOL;have Hom2:=hid hom2;have HMm:=hid hm;clear hom hse0 hOL hom2 hm;have c3:=must_any d L lv i b [123] w2 HR2.out (HT1.out.mv HM2.out (Nat.le_refl _)) (by have:=HFst.out.le;omega);rw [Hom.out,show bstr [123]=⟨#[123]⟩ from rfl] at c3
 go_wp2_with fail
 refine c3.mono ?_;rintro x w3 ⟨rfl,hw3⟩;have HM3:=hid (HM2.out.trans (hw3.2.mono HM2.out.size));have HR3:=hid hw3.1
 skip
 clear c3 hw3;have c4:=semis_any d L lv om.at om.isBad w3 HR3.out (HT1.out.mv HM3.out (Nat.le_refl _)) HFom.out.le hL;rw [Hse0.out] at c4;obtain ⟨RS4,hRS4⟩:∃ R,decide (0<(if om.isBad then 0 else semiN L om.at))=R:=⟨_,rfl⟩;rw [hRS4] at c4;clear hRS4
 go_wp2_with fail
 refine c4.mono ?_;rintro x w4 ⟨rfl,hw4⟩;have HM4:=hid (HM3.out.trans (hw4.2.mono HM3.out.size));have HR4:=hid hw4.1;clear c4 hw4
 have HINV:Hid (LoopInv d L lv W1 OL (fun m j l=>stmts L m j l) 0 m false (start om.isBad se0 (.ok [] se0)) (.slice none 0 0) 0 [] m w4):=hid (by
  have h1:(start om.isBad se0 (.ok [] se0:Out (List Pt))).at=se0:=by cases om.isBad <;> rfl
  have h2:(start om.isBad se0 (.ok [] se0:Out (List Pt))).isBad=om.isBad:=by cases om.isBad <;> rfl
  refine ⟨?_,by rw [h1,h2];exact HR4.out,HM4.out,(ListV.nil _ se0 _).out (fun l j h=>?_),by rw [h1];exact HSE.out.1,Nat.zero_le _,?_,fun _ hb=>?_⟩
  ·rw [if_neg (by decide),← HOL.out]
   cases om.isBad <;> rfl
  ·cases hb:om.isBad
   ·rw [hb] at h
    cases h
    exact ⟨_,rfl⟩
   ·rw [hb] at h
    cases h
  ·rw [h1,h2]
   cases hb:om.isBad
   ·have:=(HGom.out hb).1
    have:=HSE.out.2;rw [if_neg (by decide)];omega
   ·rw [if_pos rfl];omega
  ·rw [h1]
   rw [h2] at hb;obtain ⟨h3,h4⟩:=HGom.out hb;have h5:=HMm.out.1 h4;have h6:=HN.out h4;have h7:=HSE.out.2;have h8:=HFom.out.le
   omega)
 go_wp2_with fail
 go_loopw [4] (fun av wr=>∃ (o:Out (List Pt)) (v:Value) (nn:Nat) (xs:List Value) (mm:Nat),av=v∧Hid (LoopInv d L lv W1 OL (fun m j l=>stmts L m j l) 0 (m) false o v nn xs mm wr)) (fun _ wr=>(L.length+1 - atR d wr)*2+goodR d wr)
 case atStart=>exact ⟨_,_,0,[],_,rfl,HINV⟩
 case round =>
  clear HINV;obtain ⟨o,v,nn,xs,mm,rfl,HIN⟩:=hrel;obtain ⟨la,lc,hav⟩:=HIN.out.list.form;subst hav;have ci:=is_any d L lv o.at o.isBad [125] wr HIN.out.rd (HT1.out.mv HIN.out.mv (Nat.le_refl _));rw [show bstr [125]=⟨#[125]⟩ from rfl] at ci
  cases hob:o.isBad
  ·rw [hob] at ci
   obtain ⟨R4,hR4⟩:∃ R,isT L [125] o.at=R:=⟨_,rfl⟩;rw [show (!false&&isT L [125] o.at)=R4 from hR4] at ci
   cases R4
   ·have HRo:Hid (Rd d lv o.at false wr):=hid (by rw [← hob];exact HIN.out.rd)
    have H4:=hid hR4
    go_wp2_with (fail)
    refine ci.mono ?_;intro x w4 h4;obtain ⟨rfl,hw4⟩:=h4.went HRo.out;have hc2:=hw4.1.c2;have HW4:=hid hw4;clear ci h4 hw4 hR4;obtain ⟨l,hl⟩:=out_ok hob;obtain ⟨oa,hoa⟩:∃ u,o.at=u:=⟨_,rfl⟩;rw [hoa] at hl;subst hl;have hfu2:=HIN.out.fuel rfl rfl;have hle:oa≤L.length:=HIN.out.le;have hcn:nn+1≤oa:=HIN.out.cnt;have hfu3:8*(L.length - oa)+5≤mm:=hfu2.1;have hfu4:mm≤m:=hfu2.2;obtain ⟨m',rfl⟩:∃ m',mm=m'+1:=⟨mm - 1,by omega⟩;obtain ⟨ob,hobb⟩:∃ u,start false oa (stmt L m' oa)=u:=⟨_,rfl⟩;have HFb:Hid (Fwd L oa ob):=hid (by rw [← hobb,start_false];exact (all_fwdS L m').stmt oa hle)
    have HOUT:Hid (OL=ob.next fun p j=>if semiN L j=0∧isT L [125] j=false then .bad j else stmts L m' (j+semiN L j) (l++[p])):=hid (by
     have h:=HIN.out.out;rw [if_neg (by decide)] at h;rw [h,← hobb,start_false]
     exact (stmts_succ L m' oa l).trans (if_neg (by rw [show isT L [125] oa=false from H4.out];decide)))
    have HLr:Hid (ListV W1.heap.size (.ok l oa) (.slice la nn lc) nn xs w4):=hid (HIN.out.list.mv HW4.out.2 (by have:=HM1.out.size;omega));have HMr:Hid (Mv W1.heap.size d W1 w4):=hid (HIN.out.mv.trans (HW4.out.2.mono HIN.out.mv.size));have HRr:Hid (Rd d lv oa false w4):=hid HW4.out.1;have HTr:=hid (HT1.out.mv HMr.out (Nat.le_refl _));have HAT0:Hid (atR d wr=oa):=hid HIN.out.rd.at;have HGT0:Hid (goodR d wr=1):=hid HIN.out.rd.good;have cb:=HI.out m' (by have h9:=HMm.out;cases b <;> simp at h9 <;> omega) oa false w4 HRr.out HTr.out hle (fun _=>by omega);rw [hobb] at cb;have k2:=HRr.out.c2;clear hobb hfu2 hob hoa
    go_wp2_with fail
    refine cb.mono ?_;rintro x v5 ⟨v,rfl,⟨kb,tb,fb,eb,ab,nb,cb',rfl,hnb,hvb⟩,hw5⟩;have hLx:ListV W1.heap.size (.ok l oa) (.slice la nn lc) nn xs (v5.alloc (.cells #[.string kb,.string tb,.int .i64 fb,.int .i64 eb,.slice ab nb cb'] 25)):=(HLr.out.mv hw5.2 (by have:=HM1.out.size;omega)).mv (Mv.of_below (d:=d) ((Below.refl _ v5).alloc (Nat.le_refl _) _)) (by have:=HM1.out.size;omega);have hbx:Below v5.heap.size v5 (v5.alloc (.cells #[.string kb,.string tb,.int .i64 fb,.int .i64 eb,.slice ab nb cb'] 25)):=(Below.refl _ v5).alloc (Nat.le_refl _) _
    have hsx:W1.heap.size≤(v5.alloc (.cells #[.string kb,.string tb,.int .i64 fb,.int .i64 eb,.slice ab nb cb'] 25)).heap.size:=by have:=hw5.2.size;have:=HMr.out.size;have:=hbx.size;omega
    have HVB:=hid hvb;have HW5:=hid hw5;have HLx:=hid hLx;have HBx:=hid hbx;clear cb hvb hw5 hLx hbx hnb k2
    go_wp2_with (at_builtin;refine wpList_append_own_at _ rfl _ _ 23 rfl W1.heap.size 25 iP _ 5 72 Tryz.underlying23 hi0 hz0 hz1 hz2 rfl (by decide) _ nn xs rfl HLx.out.own ⟨v5.heap.size,0,none⟩ 1 1 [.string kb,.string tb,.int .i64 fb,.int .i64 eb,.slice ab nb cb'] rfl rfl (row_news (heap_alloc_new v5 _)) one_part (by unfold maxLen;omega) (by omega) hsx ?_)
    intro v' w7 hown hgrow _ hrow0
    have hrow:v'.ownBlock=(Value.slice la nn lc).ownBlock∨v'.ownBlock=some (v5.alloc (.cells #[.string kb,.string tb,.int .i64 fb,.int .i64 eb,.slice ab nb cb'] 25)).heap.size:=by simpa using hrow0
    clear hrow0
    have HL7:Hid (∀ o':Out (List Pt),(∀ l' j',o'=.ok l' j'→∃ p jp,ob=.ok p jp∧l'=l++[p])→ListV W1.heap.size o' v' (nn+1) (xs++[.string kb,.string tb,.int .i64 fb,.int .i64 eb,.slice ab nb cb']) w7):=hid (fun o' ho'=>HLx.out.snoc HLr.out (Nat.le_refl _) HMr.out.size HVB.out HBx.out hown hgrow hrow (fun l' j' hl'=>by
     obtain ⟨p,jp,h1,h2⟩:=ho' l' j' hl'
     exact ⟨l,oa,p,jp,rfl,h1,h2⟩))
    have hown1:∀ k,(Value.slice la nn lc).ownBlock=some k→W1.heap.size≤k:=fun k hk=>(HLx.out.own.lt k hk).1
    have hd1:d<W1.heap.size:=by have:=HM1.out.size;omega
    have HR7:Hid (Rd d lv ob.at ob.isBad w7):=hid (by
     have h:=HW5.out.1.below HBx.out
     exact (hgrow.block d h.lt (fun h'=>by have:=hown1 d h'.symm;omega)).trans h)
    have HM7:Hid (Mv W1.heap.size d W1 w7):=hid (HMr.out.trans ((HW5.out.2.mono HMr.out.size).trans (((Mv.of_below HBx.out).mono (by have:=HW5.out.2.size;have:=HMr.out.size;omega)).trans ⟨hgrow.os,hgrow.tape,hgrow.output,hgrow.size,fun k hk _=>hgrow.block k (by omega) (fun h'=>by have:=hown1 k h'.symm;omega)⟩)));have c8:=semis_any d L lv ob.at ob.isBad w7 HR7.out (HT1.out.mv HM7.out (Nat.le_refl _)) HFb.out.le hL;obtain ⟨S8,hS8⟩:∃ u,(if ob.isBad then 0 else semiN L ob.at)=u:=⟨_,rfl⟩;rw [hS8] at c8;obtain ⟨p8,hp8⟩:∃ u,ob.at+S8=u:=⟨_,rfl⟩;rw [hp8] at c8
    have HP8:Hid (p8≤L.length∧oa≤p8∧(ob.isBad=false→oa<p8)∧p8=ob.at+S8):=hid (by
     have h1:=HFb.out.ge;have h2:=HFb.out.le;refine ⟨?_,by omega,fun h=>by have:=HFb.out.gt h;omega,hp8.symm⟩
     cases hb:ob.isBad
     ·rw [hb,if_neg (by decide)] at hS8
      have:=semi_le L h2
      omega
     ·rw [hb,if_pos rfl] at hS8
      omega)
    obtain ⟨R9,hR9⟩:∃ R,decide (0<S8)=R:=⟨_,rfl⟩;rw [hR9] at c8;have HS8:=hid hS8;have H9:=hid hR9
    have HGO:Hid (ob.isBad=false→(0<S8∨isT L [125] p8=true)→OL=(Out.ok (l++[ob.pt]) p8).next fun acc k=>stmts L m' k acc):=hid (fun hb h=>by
     rw [HOUT.out];rw [hb,if_neg (by decide)] at hS8;have h1:=out_pt hb;rw [h1];have e1:(Out.ok ob.pt ob.at).at=ob.at:=rfl;have e2:(Out.ok ob.pt ob.at).pt=ob.pt:=rfl
     show (if semiN L ob.at=0∧isT L [125] ob.at=false then _ else _)=_
     rw [if_neg (fun hh=>by
      rcases h with h|h
      ·omega
      ·rw [← hp8,← hS8,hh.1,Nat.add_zero,hh.2] at h;cases h),hS8,hp8]
     rfl)
    have HBD:Hid (¬ 0<S8→(!ob.isBad&&isT L [125] p8)=false→OL=.bad p8):=hid (fun h1 h2=>by
     rw [HOUT.out]
     have h0:S8=0:=by omega
     rw [h0,Nat.add_zero] at hp8
     cases ob with
     | bad j =>
      have hp8:j=p8:=hp8;rw [← hp8];rfl
     | ok a j =>
      have hp8:j=p8:=hp8;have hS8:semiN L j=S8:=hS8
      have h2:isT L [125] p8=false:=by simpa [Out.isBad] using h2
      show (if semiN L j=0∧isT L [125] j=false then _ else _)=_
      rw [if_pos ⟨by omega,by rw [hp8];exact h2⟩,hp8])
    have HL8:Hid (ob.isBad=false→ListV W1.heap.size (Out.ok (l++[ob.pt]) p8) v' (nn+1) (xs++[.string kb,.string tb,.int .i64 fb,.int .i64 eb,.slice ab nb cb']) w7):=hid (fun hb=>HL7.out _ (fun l' j' hl'=>by
     cases hl'
     exact ⟨ob.pt,ob.at,out_pt hb,rfl⟩))
    have HL9:Hid (ListV W1.heap.size (Out.bad p8) v' (nn+1) (xs++[.string kb,.string tb,.int .i64 fb,.int .i64 eb,.slice ab nb cb']) w7):=hid (HL7.out _ (fun l' j' hl'=>by cases hl'));clear hown hgrow hrow hown1 hd1 hR9 hsx hS8 hp8
    cases R9
    ·go_wp2_with fail
     refine c8.mono ?_;rintro x w8 ⟨rfl,hw8⟩;have HM8:=hid (HM7.out.trans (hw8.2.mono HM7.out.size));have HW8:=hid hw8;have c9:=is_any d L lv p8 ob.isBad [125] w8 hw8.1 (HT1.out.mv HM8.out (Nat.le_refl _));rw [show bstr [125]=⟨#[125]⟩ from rfl] at c9;obtain ⟨RX,hRX⟩:∃ R,(!ob.isBad&&isT L [125] p8)=R:=⟨_,rfl⟩;rw [hRX] at c9;have HX:=hid hRX;clear c8 hw8 hRX
     cases RX
     ·go_wp2_with fail
      refine c9.mono ?_;intro x w9 h9;obtain ⟨rfl,hw9⟩:=h9.went HW8.out.1;have HM9:=hid (HM8.out.trans (hw9.2.mono HM8.out.size));have k2:=hw9.1.c2;have f2:=hw9.1.f2;obtain ⟨WE,hWE⟩:∃ W,w9.setCell ⟨d,2,none⟩ (.bool true)=W:=⟨_,rfl⟩
      have hRE:Rd d lv p8 true WE:=by rw [← hWE];exact hw9.1.set2 true
      have hME:Mv w9.heap.size d w9 WE:=by rw [← hWE];exact (Mv.refl _ _ _).setCell 2 _
      have HIN2:Hid (LoopInv d L lv W1 OL (fun m j l=>stmts L m j l) 0 (m) false (Out.bad p8) v' (nn+1) (xs++[.string kb,.string tb,.int .i64 fb,.int .i64 eb,.slice ab nb cb']) m' WE):=hid ⟨by rw [if_neg (by decide)];exact HBD.out (by simpa using H9.out) HX.out,hRE,HM9.out.trans (hME.mono HM9.out.size),((HL9.out.mv HW8.out.2 (by have:=HM1.out.size;omega)).mv hw9.2 (by have:=HM1.out.size;omega)).mv hME (by have:=HM1.out.size;omega),HP8.out.1,Nat.zero_le _,by show nn+1+0≤p8;have:=HP8.out;omega,fun _ hb=>by cases hb⟩;have HMS:Hid (atR d WE=p8∧goodR d WE=0):=hid ⟨hRE.at,hRE.good⟩;clear c9 h9 hw9 hRE hME
      go_wp2_with fail
      go_roundw
      case rel=>exact ⟨_,_,_,_,m',rfl,HIN2⟩
      case measure =>
       rw [HMS.out.1,HMS.out.2,HAT0.out,HGT0.out];have h1:=HP8.out
       omega
     ·have hb9:ob.isBad=false∧isT L [125] p8=true:=by simpa using HX.out
      have HB9:=hid hb9;clear hb9
      go_wp2_with fail
      refine c9.mono ?_;intro x w9 h9;obtain ⟨rfl,hw9⟩:=h9.went HW8.out.1;rw [HB9.out.1] at hw9;have HM9:=hid (HM8.out.trans (hw9.2.mono HM8.out.size));have HIN2:Hid (LoopInv d L lv W1 OL (fun m j l=>stmts L m j l) 0 (m) false (Out.ok (l++[ob.pt]) p8) v' (nn+1) (xs++[.string kb,.string tb,.int .i64 fb,.int .i64 eb,.slice ab nb cb']) m' w9):=hid ⟨by rw [if_neg (by decide)];exact HGO.out HB9.out.1 (.inr HB9.out.2),hw9.1,HM9.out,((HL8.out HB9.out.1).mv HW8.out.2 (by have:=HM1.out.size;omega)).mv hw9.2 (by have:=HM1.out.size;omega),HP8.out.1,Nat.zero_le _,by show nn+1+1≤p8;have:=HP8.out.2.2.1 HB9.out.1;omega,fun _ _=>by show 8*(L.length - p8)+5≤m'∧m'≤m;have:=HP8.out.2.2.1 HB9.out.1;have:=isT_lt HB9.out.2;omega⟩;have HMS:Hid (atR d w9=p8∧goodR d w9=1):=hid ⟨hw9.1.at,hw9.1.good⟩;clear c9 h9 hw9
      go_wp2_with fail
      go_roundw
      case rel=>exact ⟨_,_,_,_,m',rfl,HIN2⟩
      case measure =>
       rw [HMS.out.1,HMS.out.2,HAT0.out,HGT0.out];have h1:=HP8.out.2.2.1 HB9.out.1;have h2:=HP8.out.1
       omega
    ·have hS:0<S8:=by simpa using H9.out
     have hb9:ob.isBad=false:=by
      cases hb:ob.isBad
      ·rfl
      ·have h:=HS8.out
       rw [hb,if_pos rfl] at h
       omega
     have HB9:=hid hb9;have HS:=hid hS;clear hb9 hS
     go_wp2_with fail
     refine c8.mono ?_;rintro x w8 ⟨rfl,hw8⟩;rw [HB9.out] at hw8;have HM8:=hid (HM7.out.trans (hw8.2.mono HM7.out.size));have HIN2:Hid (LoopInv d L lv W1 OL (fun m j l=>stmts L m j l) 0 (m) false (Out.ok (l++[ob.pt]) p8) v' (nn+1) (xs++[.string kb,.string tb,.int .i64 fb,.int .i64 eb,.slice ab nb cb']) m' w8):=hid ⟨by rw [if_neg (by decide)];exact HGO.out HB9.out (.inl HS.out),hw8.1,HM8.out,(HL8.out HB9.out).mv hw8.2 (by have:=HM1.out.size;omega),HP8.out.1,Nat.zero_le _,by show nn+1+1≤p8;have:=HP8.out.2.2.1 HB9.out;omega,fun _ _=>by show 8*(L.length - p8)+5≤m'∧m'≤m;have:=HFb.out.gt HB9.out;have:=HP8.out;have:=HS.out;omega⟩;have HMS:Hid (atR d w8=p8∧goodR d w8=1):=hid ⟨hw8.1.at,hw8.1.good⟩;clear c8 hw8
     go_wp2_with fail
     go_roundw
     case rel=>exact ⟨_,_,_,_,m',rfl,HIN2⟩
     case measure =>
      rw [HMS.out.1,HMS.out.2,HAT0.out,HGT0.out];have h1:=HP8.out.2.2.1 HB9.out;have h2:=HP8.out.1
      omega
   ·have hox:OL=o:=by
     have h:=HIN.out.out;rw [if_neg (by decide)] at h;obtain ⟨l,hl⟩:=out_ok hob;have hfu:=(HIN.out.fuel rfl hob).1;obtain ⟨m',rfl⟩:∃ m',mm=m'+1:=⟨mm - 1,by omega⟩;rw [h];rw [hl] at hR4 ⊢
     exact (stmts_succ L m' o.at l).trans (if_pos hR4)
    have HRo:Hid (Rd d lv o.at o.isBad wr):=hid HIN.out.rd
    go_wp2_with fail
    refine ci.mono ?_;intro x w4 h4;obtain ⟨rfl,hw4⟩:=h4.went HRo.out;have HW4:=hid hw4;clear ci h4 hw4 hR4 hob;subst hox;have HMe:=hid (HIN.out.mv.trans (HW4.out.2.mono HIN.out.mv.size));have HLe:=hid (HIN.out.list.mv HW4.out.2 (by have:=HM1.out.size;omega));have HCe:Hid (nn≤1000000):=hid (by have h1:=HIN.out.cnt;have h2:=HIN.out.le;split at h1 <;> omega);have ce:=must_any d L lv OL.at OL.isBad [125] w4 HW4.out.1 (HT1.out.mv HMe.out (Nat.le_refl _)) (by have:=HIN.out.le;omega);rw [Hom2.out,show bstr [125]=⟨#[125]⟩ from rfl] at ce
    go_wp2_with fail
    refine ce.mono ?_;rintro x we ⟨rfl,hwe⟩;have HMf:=hid (HMe.out.trans (hwe.2.mono HMe.out.size));have HRf:=hid hwe.1;have HLf:=hid (HLe.out.mv hwe.2 (by have:=HM1.out.size;omega));clear ce hwe;have cz:=part_any d L lv om2.at om2.isBad ⟨#[98,108,111,99,107]⟩ ⟨#[]⟩ fr la nn lc we HRf.out (HT1.out.mv HMf.out (Nat.le_refl _)) HFm2.out hL;obtain ⟨ez,hez⟩:∃ u,toT L om2.at=u:=⟨_,rfl⟩;rw [hez] at cz;have HEZ:=hid hez;clear hez
    go_wp2_with fail
    refine cz.mono ?_;rintro x wq ⟨rfl,hwq⟩;have HMq:=hid (HMf.out.trans (hwq.2.mono HMf.out.size));have HWq:=hid hwq;have hqw:=(Array.getElem?_eq_some_iff.1 HQ1.out).1;have hq7:wq.heap[w.heap.size]?=_:=(HMq.out.block w.heap.size hqw (by omega)).trans HQ1.out;obtain ⟨⟨r0,r1,r2,r3,r4⟩,gz⟩:=five_cells hq7;have g0:=gz 0;have g1:=gz 1;have g2:=gz 2;have g3:=gz 3;have g4:=gz 4;have HQ7:=hid hq7;clear cz hwq hq7 gz
    go_wp2_with fail
    have hp:=set_row5 (a':=.string ⟨#[98,108,111,99,107]⟩) (b':=.string ⟨#[]⟩) (c':=.int .i64 fr) (d':=.int .i64 ez) (e':=.slice la nn lc) HQ7.out;refine bodyPost_ret (v:=.agg #[.string ⟨#[98,108,111,99,107]⟩,.string ⟨#[]⟩,.int .i64 fr,.int .i64 ez,.slice la nn lc]) (results_cell_row rfl _ _ w.heap.size 25 #[.string ⟨#[98,108,111,99,107]⟩,.string ⟨#[]⟩,.int .i64 fr,.int .i64 ez,.slice la nn lc] (0,0) _ (by rfl) hp Tryz.underlying25 rfl (by kernel_rfl)) rfl ?_;rw [← HQ.out];refine reads_end hd (HM1.out.trans (HMq.out.mono HM1.out.size)) HWq.out.1 HAT.out.1 HAT.out.2 ?_ ⟨Nat.le_refl _,Nat.le_refl _⟩;refine partV_list (HLf.out.mv HWq.out.2 (by omega)) (fun g hg=>by omega) (HCe.out) (fun p j hpj=>?_);rw [← HEZ.out]
    exact HPLL.out p j hpj
  ·have hox:OL=o:=by
    rw [HIN.out.out,if_neg (by decide)]
    cases o with
    | ok a j=>cases hob
    | bad j=>rfl
   have HRo:Hid (Rd d lv o.at o.isBad wr):=hid HIN.out.rd;rw [show (!o.isBad&&isT L [125] o.at)=false by rw [hob];rfl] at ci
   go_wp2_with fail
   refine ci.mono ?_;intro x w4 h4;obtain ⟨rfl,hw4⟩:=h4.went HRo.out;have hc2:=hw4.1.c2;rw [hob] at hc2;have HW4:=hid hw4;clear ci h4 hw4 hob;subst hox;have HMe:=hid (HIN.out.mv.trans (HW4.out.2.mono HIN.out.mv.size));have HLe:=hid (HIN.out.list.mv HW4.out.2 (by have:=HM1.out.size;omega));have HCe:Hid (nn≤1000000):=hid (by have h1:=HIN.out.cnt;have h2:=HIN.out.le;split at h1 <;> omega);have ce:=must_any d L lv OL.at OL.isBad [125] w4 HW4.out.1 (HT1.out.mv HMe.out (Nat.le_refl _)) (by have:=HIN.out.le;omega);rw [Hom2.out,show bstr [125]=⟨#[125]⟩ from rfl] at ce
   go_wp2_with fail
   refine ce.mono ?_;rintro x we ⟨rfl,hwe⟩;have HMf:=hid (HMe.out.trans (hwe.2.mono HMe.out.size));have HRf:=hid hwe.1;have HLf:=hid (HLe.out.mv hwe.2 (by have:=HM1.out.size;omega));clear ce hwe;have cz:=part_any d L lv om2.at om2.isBad ⟨#[98,108,111,99,107]⟩ ⟨#[]⟩ fr la nn lc we HRf.out (HT1.out.mv HMf.out (Nat.le_refl _)) HFm2.out hL;obtain ⟨ez,hez⟩:∃ u,toT L om2.at=u:=⟨_,rfl⟩;rw [hez] at cz;have HEZ:=hid hez;clear hez
   go_wp2_with fail
   refine cz.mono ?_;rintro x wq ⟨rfl,hwq⟩;have HMq:=hid (HMf.out.trans (hwq.2.mono HMf.out.size));have HWq:=hid hwq;have hqw:=(Array.getElem?_eq_some_iff.1 HQ1.out).1;have hq7:wq.heap[w.heap.size]?=_:=(HMq.out.block w.heap.size hqw (by omega)).trans HQ1.out;obtain ⟨⟨r0,r1,r2,r3,r4⟩,gz⟩:=five_cells hq7;have g0:=gz 0;have g1:=gz 1;have g2:=gz 2;have g3:=gz 3;have g4:=gz 4;have HQ7:=hid hq7;clear cz hwq hq7 gz
   go_wp2_with fail
   have hp:=set_row5 (a':=.string ⟨#[98,108,111,99,107]⟩) (b':=.string ⟨#[]⟩) (c':=.int .i64 fr) (d':=.int .i64 ez) (e':=.slice la nn lc) HQ7.out;refine bodyPost_ret (v:=.agg #[.string ⟨#[98,108,111,99,107]⟩,.string ⟨#[]⟩,.int .i64 fr,.int .i64 ez,.slice la nn lc]) (results_cell_row rfl _ _ w.heap.size 25 #[.string ⟨#[98,108,111,99,107]⟩,.string ⟨#[]⟩,.int .i64 fr,.int .i64 ez,.slice la nn lc] (0,0) _ (by rfl) hp Tryz.underlying25 rfl (by kernel_rfl)) rfl ?_;rw [← HQ.out];refine reads_end hd (HM1.out.trans (HMq.out.mono HM1.out.size)) HWq.out.1 HAT.out.1 HAT.out.2 ?_ ⟨Nat.le_refl _,Nat.le_refl _⟩;refine partV_list (HLf.out.mv HWq.out.2 (by omega)) (fun g hg=>by omega) (HCe.out) (fun p j hpj=>?_);rw [← HEZ.out]
   exact HPLL.out p j hpj
end Go.Proofs.YtmclaaonlhnbmaaGreatDoor.T
namespace Go.Proofs.YtmclaaonlhnbmaaGreatDoor.T
open Go.RowKit
open Go.Lib hiding intOf
open U S L
theorem ListV.made {B n:Nat} {W Z:World} {cs:Array Value} {o:Out (List Pt)} (hZ:W.alloc (.cells cs 25)=Z) (hB:B≤W.heap.size) (hs:cs.size=n*5) (hn:n≤1000) (h5:Fives n cs.toList)
  (h:∀ l j,o=.ok l j→l.length=n∧PartsIn W (fun g=>B≤g∧g<W.heap.size) l cs.toList):ListV B o (.slice (some ⟨W.heap.size,0,none⟩) n n) n cs.toList Z:=by
 subst hZ;refine ⟨World.ownsRow_lit W cs n hB (by unfold maxLen;omega) hs,h5,fun l j hl=>⟨(h l j hl).1,?_⟩⟩;refine PartsIn.later (fun g hg hgl=>heap_alloc_old W _ hgl) (fun g hg=>⟨hg.1,by simp;omega,fun h'=>?_⟩) _ _ (h l j hl).2;simp only [Value.ownBlock,Option.some.injEq] at h'
 omega
def BranchAt (d:Nat) (L:List TokP) (lv:Value) (n:Nat):Prop:=∀ (i:Nat) (b:Bool) (w:World),Rd d lv i b w→Tk d L lv w→i≤L.length→(b=false→8*(L.length - i)+3≤n) →
 Calls Tryz.prog 141 #[.pointer (some ⟨d,0,none⟩)] w (Reads d lv (start b i (branch L n i)) w)
set_option maxHeartbeats 16000000 in
set_option maxRecDepth 20000 in
theorem branch_step (d:Nat) (L:List TokP) (lv:Value) (hL:L.length≤1000000) (n:Nat) (ihB:∀ m,n=m+1∨m=0→BlockAt d L lv m) (ih:∀ m,n=m+1→BranchAt d L lv m):BranchAt d L lv n:=by
 intro i b w hR hT hi hn;obtain ⟨O,hO⟩:∃ O,start b i (branch L n i)=O:=⟨_,rfl⟩;have HO:=hid hO;have HI:=hid ih;have HIB:=hid ihB;rw [hO];clear hO ih ihB;have hd:=hR.lt;obtain ⟨W1,hW1⟩:∃ W1,w.alloc zeroP=W1:=⟨_,rfl⟩
 have hb1:Below w.heap.size w W1:=by rw [← hW1];exact (Below.refl _ w).alloc (Nat.le_refl _) _
 have HM1:=hid (Mv.of_below (d:=d) hb1)
 have hq1:W1.heap[w.heap.size]?=some (.cells #[.string ⟨#[]⟩,.string ⟨#[]⟩,.int .i64 0,.int .i64 0,.slice none 0 0] 25 (0,0)):=by rw [← hW1];exact heap_alloc_new w _
 have hR1:Rd d lv i b W1:=hR.below hb1;have hT1:=hT.mv (Mv.of_below hb1) (Nat.le_refl _);have c1:=from_any d L lv i b W1 hR1 hT1;obtain ⟨fr,hfr⟩:∃ fr,fromT L i=fr:=⟨_,rfl⟩;rw [hfr] at c1;have HFR:=hid hfr;have HW1:=hid hW1;have HQ1:=hid hq1;have HR1:=hid hR1;have HT1:=hid hT1;have HT0:=hid hT;have HN:=hid hn;obtain ⟨Q,hQ⟩:∃ Q,Reads d lv O w=Q:=⟨_,rfl⟩;have HQ:=hid hQ;rw [hQ];clear hW1 hq1 hb1 hR1 hT1 hfr hn hQ hR hT
 go_enter Tryz.func141,Tryz.ntmps141
 go_wp2_with fail
 rw [HW1.out];refine c1.mono ?_;intro x w2 h2;obtain ⟨rfl,hw2⟩:=h2.went HR1.out;have HM2:=hid hw2.2;have HR2:=hid hw2.1;clear c1 h2 hw2;obtain ⟨om,hom⟩:∃ u,start b i (mustT L kIf i)=u:=⟨_,rfl⟩
 obtain ⟨m,hm⟩:∃ m,(b=false→n=m+1)∧(b=true→m=0):=by
  cases b
  ·exact ⟨n - 1,fun _=>by have:=HN.out rfl;omega,fun h=>by cases h⟩
  ·exact ⟨0,fun h=>by (cases h),fun _=>rfl⟩
 obtain ⟨oe,hoe⟩:∃ u,start om.isBad om.at (expr L m 0 om.at)=u:=⟨_,rfl⟩;obtain ⟨ob,hob⟩:∃ u,start oe.isBad oe.at (block L m oe.at)=u:=⟨_,rfl⟩;have HFst:Hid (Fol L i b (start b i (Out.ok () i:Out Unit))):=hid (.begun hi ⟨Nat.le_refl _,hi⟩);have HFom:Hid (Fol L i b om):=hid (by rw [← hom];exact .begun hi (mustT_fwd _ hi).toFw);have HFoe:Hid (Fol L i b oe):=hid (by rw [← hoe];exact HFom.out.step ((all_fwd m).expr _ HFom.out.le 0).toFw);have HFob:Hid (Fol L i b ob):=hid (by rw [← hob];exact HFoe.out.step ((all_fwdS L m).block _ HFoe.out.le).toFw)
 have HGom:Hid (om.isBad=false→om.at=i+1∧b=false):=hid (by
  rw [← hom]
  cases b
  ·rw [start_false]
   unfold mustT
   cases isT L kIf i
   ·intro h;cases h
   ·exact fun _=>⟨rfl,rfl⟩
  ·intro h;cases h)
 have HSoe:Hid (oe.isBad=false→om.isBad=false):=hid (fun h=>by rw [← hoe] at h;exact (start_so h).1)
 have HGoe:Hid (om.at≤oe.at):=hid (by
  rw [← hoe]
  cases om.isBad
  ·exact ((all_fwd m).expr _ HFom.out.le 0).ge
  ·exact Nat.le_refl _)
 have HSob:Hid (ob.isBad=false→oe.isBad=false∧oe.at≤ob.at):=hid (fun h=>by
  rw [← hob] at h ⊢;obtain ⟨h1,h2⟩:=start_so h;rw [h2]
  exact ⟨h1,((all_fwdS L m).block _ HFoe.out.le).ge⟩)
 have HO3:Hid (O=ob.next fun _ k=>if isT L kElse k then if isT L kIf (k+1) then (branch L m (k+1)).next fun o p=>part L kIf [] fr [oe.pt,ob.pt,o] p else (block L m (k+1)).next fun o p=>part L kIf [] fr [oe.pt,ob.pt,o] p else part L kIf [] fr [oe.pt,ob.pt] k):=hid (by
  rw [← HO.out,← HFR.out]
  cases b
  ·have hm1:=hm.1 rfl
   subst hm1;rw [start_false,branch_succ];have hom:mustT L kIf i=om:=hom;rw [hom]
   cases om with
   | bad j=>subst hoe;subst hob;rfl
   | ok u j =>
    have hoe:expr L m 0 j=oe:=hoe
    show ((expr L m 0 j).next _)=_
    rw [hoe]
    cases oe with
    | bad j=>subst hob;rfl
    | ok e k =>
     have hob:block L m k=ob:=hob
     show ((block L m k).next _)=_
     rw [hob]
     cases ob <;> rfl
  ·subst hom;subst hoe;subst hob;rfl)
 obtain ⟨oL,hoL⟩:∃ u,(ob.next fun _ k=>Out.ok [oe.pt,ob.pt] k:Out (List Pt))=u:=⟨_,rfl⟩
 have HPO:∀ l j,oL=.ok l j→(∃ y0 j0,oe=.ok y0 j0)∧(∃ y1 j1,ob=.ok y1 j1)∧l=[oe.pt,ob.pt]:=fun l j hl=>by
  rw [← hoL] at hl
  cases hb:ob.isBad
  ·have h1:=out_pt hb
   have h2:=out_pt (HSob.out hb).1;refine ⟨⟨_,_,h2⟩,⟨_,_,h1⟩,?_⟩;rw [h1] at hl;simp only [Out.next,Out.ok.injEq] at hl;rw [← hl.1];rfl
  ·cases ob with
   | ok a j=>cases hb
   | bad j=>cases hl
 have HPL2:Hid (∀ l j,oL=.ok l j→∃ x:(∃ y0 j0,oe=.ok y0 j0)∧(∃ y1 j1,ob=.ok y1 j1),l=[oe.pt,ob.pt]):=hid (fun l j hl=>by obtain ⟨h1,h2,h3⟩:=HPO l j hl;exact ⟨⟨h1,h2⟩,h3⟩);obtain ⟨iP,hi0,hz0,hz1,hz2⟩:=info_partsT infoPT;have Hom:=hid hom;have Hoe:=hid hoe;have Hob:=hid hob;have HoL:=hid hoL;have HMm:=hid hm;have HPOH:=hid HPO;clear hom hoe hob hoL hm HPO HPL2;have c3:=must_any d L lv i b kIf w2 HR2.out (HT1.out.mv HM2.out (Nat.le_refl _)) (by have:=HFst.out.le;omega);rw [Hom.out,show bstr kIf=⟨#[105,102]⟩ from rfl] at c3
 go_wp2_with fail
 refine c3.mono ?_;rintro x w3 ⟨rfl,hw3⟩;have HM3:=hid (HM2.out.trans (hw3.2.mono HM2.out.size));have HR3:=hid hw3.1
 skip
 clear c3 hw3;have c4:=expr_any d L lv hL m 0 om.at om.isBad w3 HR3.out (HT1.out.mv HM3.out (Nat.le_refl _)) HFom.out.le (fun h=>by obtain ⟨h1,h2⟩:=HGom.out h;have h3:=HN.out h2;have h4:=HMm.out.1 h2;have h5:=HFom.out.le;omega);rw [Hoe.out] at c4
 go_wp2_with fail
 refine c4.mono ?_;rintro x w4 ⟨v,rfl,⟨kx0,tx0,fx0,ex0,ax0,nx0,cx0,rfl,hnnx0,hvx0⟩,hw4⟩;have HVx0:=hid hvx0;have HNNx0:=hid hnnx0;clear hnnx0;have HWx0:=hid hw4;clear c4 hvx0 hw4
 go_upto_region 4 with fail
 obtain ⟨qx0,hqx0⟩:∃ q,w4.heap.size=q:=⟨_,rfl⟩;obtain ⟨V4,hV4⟩:∃ V,w4.alloc (.cells #[.string kx0,.string tx0,.int .i64 fx0,.int .i64 ex0,.slice ax0 nx0 cx0] 25)=V:=⟨_,rfl⟩
 have hb4:Below w4.heap.size w4 V4:=by rw [← hV4];exact (Below.refl _ w4).alloc (Nat.le_refl _) _
 have HBx0:Hid (V4.heap[qx0]?=some (.cells #[.string kx0,.string tx0,.int .i64 fx0,.int .i64 ex0,.slice ax0 nx0 cx0] 25 (0,0))):=hid (by rw [← hV4,← hqx0];exact heap_alloc_new w4 _);have HSx0:Hid (Mv w4.heap.size d w4 V4):=hid (Mv.of_below hb4);have HLx0:Hid (W1.heap.size≤w3.heap.size∧w3.heap.size≤w4.heap.size∧qx0=w4.heap.size):=hid ⟨HM3.out.size,HWx0.out.2.size,hqx0.symm⟩;rw [hV4,hqx0];have HM4:=hid ((HM3.out.trans (HWx0.out.2.mono HM3.out.size)).trans ((Mv.of_below hb4).mono (Nat.le_trans HM3.out.size HWx0.out.2.size)));have HR4:=hid (HWx0.out.1.below hb4)
 skip
 clear hV4 hb4 hqx0;have HDx0_4:Hid (Mv V4.heap.size d V4 V4):=hid (Mv.refl _ _ _);have c5:=HIB.out m (by have h9:=HMm.out;cases b <;> simp at h9 <;> omega) oe.at oe.isBad V4 HR4.out (HT1.out.mv HM4.out (Nat.le_refl _)) HFoe.out.le (fun h=>by obtain ⟨h1,h2⟩:=HGom.out (HSoe.out h);have h3:=HN.out h2;have h4:=HMm.out.1 h2;have h5:=HFoe.out.le;have h6:=HGoe.out;omega);rw [Hob.out] at c5
 go_wp2_with fail
 refine c5.mono ?_;rintro x w5 ⟨v,rfl,⟨kx1,tx1,fx1,ex1,ax1,nx1,cx1,rfl,hnnx1,hvx1⟩,hw5⟩;have HVx1:=hid hvx1;have HNNx1:=hid hnnx1;clear hnnx1;have HWx1:=hid hw5;clear c5 hvx1 hw5
 go_upto_region 5 with fail
 obtain ⟨qx1,hqx1⟩:∃ q,w5.heap.size=q:=⟨_,rfl⟩;obtain ⟨V5,hV5⟩:∃ V,w5.alloc (.cells #[.string kx1,.string tx1,.int .i64 fx1,.int .i64 ex1,.slice ax1 nx1 cx1] 25)=V:=⟨_,rfl⟩
 have hb5:Below w5.heap.size w5 V5:=by rw [← hV5];exact (Below.refl _ w5).alloc (Nat.le_refl _) _
 have HBx1:Hid (V5.heap[qx1]?=some (.cells #[.string kx1,.string tx1,.int .i64 fx1,.int .i64 ex1,.slice ax1 nx1 cx1] 25 (0,0))):=hid (by rw [← hV5,← hqx1];exact heap_alloc_new w5 _);have HSx1:Hid (Mv w5.heap.size d w5 V5):=hid (Mv.of_below hb5);have HLx1:Hid (W1.heap.size≤V4.heap.size∧V4.heap.size≤w5.heap.size∧qx1=w5.heap.size):=hid ⟨HM4.out.size,HWx1.out.2.size,hqx1.symm⟩;rw [hV5,hqx1];have HM5:=hid ((HM4.out.trans (HWx1.out.2.mono HM4.out.size)).trans ((Mv.of_below hb5).mono (Nat.le_trans HM4.out.size HWx1.out.2.size)));have HR5:=hid (HWx1.out.1.below hb5);have HDx0_5:=hid (HDx0_4.out.trans ((HWx1.out.2.trans ((Mv.of_below hb5).mono HWx1.out.2.size)).mono HDx0_4.out.size));clear hV5 hb5 hqx1;have HDx1_5:Hid (Mv V5.heap.size d V5 V5):=hid (Mv.refl _ _ _)
 have HPP:∀ l j,oL=.ok l j→∃ y0 y1,(∃ j0,oe=.ok y0 j0)∧(∃ j1,ob=.ok y1 j1)∧l=[y0,y1]:=fun l j hl=>by
  obtain ⟨⟨y0,j0,h0⟩,⟨y1,j1,h1⟩,h2⟩:=HPOH.out l j hl;refine ⟨y0,y1,⟨j0,h0⟩,⟨j1,h1⟩,?_⟩;rw [h2,h0,h1];rfl
 have HPQ:∀ l j,oL=.ok l j→∃ q:(Pt × Nat) × (Pt × Nat),(oe=.ok q.1.1 q.1.2∧ob=.ok q.2.1 q.2.2)∧l=[q.1.1,q.2.1]:=fun l j hl=>by
  obtain ⟨y0,y1,⟨j0,h0⟩,⟨j1,h1⟩,h2⟩:=HPP l j hl
  exact ⟨((y0,j0),(y1,j1)),⟨h0,h1⟩,h2⟩
 have HPR:∀ l j,oL=.ok l j→∃ yx0 jx0 yx1 jx1,oe=.ok yx0 jx0∧ob=.ok yx1 jx1∧l=[yx0,yx1]:=fun l j hl=>by
  obtain ⟨y0,y1,⟨j0,h0⟩,⟨j1,h1⟩,h2⟩:=HPP l j hl
  exact ⟨y0,j0,y1,j1,h0,h1,h2⟩
 have hzx0:=(HDx0_5.out.block qx0 (Array.getElem?_eq_some_iff.1 HBx0.out).1 (by have:=HLx0.out;have:=HM1.out.size;omega)).trans HBx0.out;obtain ⟨⟨l0x0,l1x0,l2x0,l3x0,l4x0⟩,-⟩:=five_cells hzx0;clear hzx0;have hzx1:=(HDx1_5.out.block qx1 (Array.getElem?_eq_some_iff.1 HBx1.out).1 (by have:=HLx1.out;have:=HM1.out.size;omega)).trans HBx1.out;obtain ⟨⟨l0x1,l1x1,l2x1,l3x1,l4x1⟩,-⟩:=five_cells hzx1;clear hzx1;obtain ⟨z,hz⟩:∃ z,V5.heap.size=z:=⟨_,rfl⟩;obtain ⟨Z,hZ⟩:∃ Z,V5.alloc (.cells #[.string kx0,.string tx0,.int .i64 fx0,.int .i64 ex0,.slice ax0 nx0 cx0,.string kx1,.string tx1,.int .i64 fx1,.int .i64 ex1,.slice ax1 nx1 cx1] 25)=Z:=⟨_,rfl⟩
 have hzb:Below V5.heap.size V5 Z:=by rw [← hZ];exact (Below.refl _ V5).alloc (Nat.le_refl _) _
 have hLZ:ListV W1.heap.size oL (.slice (some ⟨V5.heap.size,0,none⟩) 2 2) 2 [.string kx0,.string tx0,.int .i64 fx0,.int .i64 ex0,.slice ax0 nx0 cx0,.string kx1,.string tx1,.int .i64 fx1,.int .i64 ex1,.slice ax1 nx1 cx1] Z:=ListV.made hZ HM5.out.size rfl (by decide) fives_two (fun l j hl=>by
  obtain ⟨yx0,jx0,yx1,jx1,hx0,hx1,rfl⟩:=HPR l j hl;refine ⟨rfl,?_⟩;obtain ⟨ux0,kx0'⟩:=HVx0.out yx0 jx0 hx0;have sx0:Mv w4.heap.size d w4 V5:=HSx0.out.trans (HDx0_5.out.mono HSx0.out.size);have ix0:=(KidsIn.live _ _ kx0').later (W':=V5) (R':=fun g=>W1.heap.size≤g∧g<V5.heap.size) (sx0.still (Nat.le_refl _) (fun g hg=>by have:=HLx0.out;have:=HM1.out.size;omega)) (fun g hg=>by have:=HLx0.out;have:=sx0.size;omega);obtain ⟨ux1,kx1'⟩:=HVx1.out yx1 jx1 hx1;have sx1:Mv w5.heap.size d w5 V5:=HSx1.out.trans (HDx1_5.out.mono HSx1.out.size);have ix1:=(KidsIn.live _ _ kx1').later (W':=V5) (R':=fun g=>W1.heap.size≤g∧g<V5.heap.size) (sx1.still (Nat.le_refl _) (fun g hg=>by have:=HLx1.out;have:=HM1.out.size;omega)) (fun g hg=>by have:=HLx1.out;have:=sx1.size;omega)
  show PartsIn V5 _ _ (([.string kx0,.string tx0,.int .i64 fx0,.int .i64 ex0,.slice ax0 nx0 cx0]:List Value)++([.string kx1,.string tx1,.int .i64 fx1,.int .i64 ex1,.slice ax1 nx1 cx1]:List Value)++[])
  rw [five_of ux0,five_of ux1];simp only [List.append_assoc]
  exact ⟨_,_,rfl,ix0,⟨_,_,rfl,ix1,rfl⟩⟩)
 have HMZ:=hid (HM5.out.trans ((Mv.of_below (d:=d) hzb).mono HM5.out.size));have HRZ:=hid (HR5.out.below hzb);rw [hz] at hLZ;have HLZ:=hid hLZ
 go_upto_region 6 with fail
 try rw [hZ]
 try rw [hz]
 clear hzb hLZ hZ hz l0x0 l1x0 l2x0 l3x0 l4x0 l0x1 l1x1 l2x1 l3x1 l4x1;clear HPP HPQ HPR;have c8:=take_any d L lv ob.at ob.isBad kElse Z HRZ.out (HT1.out.mv HMZ.out (Nat.le_refl _)) (by have:=HFob.out.le;omega);rw [show bstr kElse=⟨#[101,108,115,101]⟩ from rfl] at c8;obtain ⟨R1,hR1⟩:∃ R,(!ob.isBad&&isT L kElse ob.at)=R:=⟨_,rfl⟩;rw [hR1] at c8;have HA:=hid hR1;clear hR1
 cases R1
 ·go_wp2_with fail
  refine c8.mono ?_;rintro x w8 ⟨rfl,hw8⟩;have hw8:Went d lv ob.at ob.isBad Z w8:=hw8;have HM8:=hid (HMZ.out.trans (hw8.2.mono HMZ.out.size));have HR8:=hid hw8.1;have HL8:=hid (HLZ.out.mv hw8.2 (by have:=HM1.out.size;omega))
  have HO4:Hid (O=ob.next fun _ k=>part L kIf [] fr [oe.pt,ob.pt] k):=hid (by
   rw [HO3.out];have h:=HA.out
   cases ob with
   | bad j=>rfl
   | ok a j =>
    show (if isT L kElse j=true then _ else _)=_
    rw [if_neg (by rw [show isT L kElse j=false by simpa [Out.isBad,Out.at] using h];decide)]
    rfl)
  have HAT:Hid (O.at=ob.at∧O.isBad=ob.isBad):=hid (by rw [HO4.out];cases ob <;> exact ⟨rfl,rfl⟩)
  have HPLL:Hid (∀ p j,O=.ok p j→∃ K T ks j',p=.mk K T fr (toT L ob.at) ks∧bstr K=⟨#[105,102]⟩∧bstr T=⟨#[]⟩∧oL=.ok ks j'):=hid (by
   intro p j hpj;rw [HO4.out] at hpj;rw [← HoL.out]
   cases ob with
   | bad j=>cases hpj
   | ok a j2 =>
    simp only [Out.next,part,Out.ok.injEq] at hpj
    exact ⟨_,_,_,j2,hpj.1.symm,rfl,rfl,rfl⟩)
  clear c8 hw8;have cz:=part_any d L lv ob.at ob.isBad ⟨#[105,102]⟩ ⟨#[]⟩ fr (some ⟨z,0,none⟩) 2 2 w8 HR8.out (HT1.out.mv HM8.out (Nat.le_refl _)) HFob.out.le hL;obtain ⟨ez,hez⟩:∃ u,toT L ob.at=u:=⟨_,rfl⟩;rw [hez] at cz;have HEZ:=hid hez;clear hez
  go_wp2_with fail
  refine cz.mono ?_;rintro x wq ⟨rfl,hwq⟩;have HMq:=hid (HM8.out.trans (hwq.2.mono HM8.out.size));have HWq:=hid hwq;have hqw:=(Array.getElem?_eq_some_iff.1 HQ1.out).1;have hq7:wq.heap[w.heap.size]?=_:=(HMq.out.block w.heap.size hqw (by omega)).trans HQ1.out;obtain ⟨⟨r0,r1,r2,r3,r4⟩,gz⟩:=five_cells hq7;have g0:=gz 0;have g1:=gz 1;have g2:=gz 2;have g3:=gz 3;have g4:=gz 4;have HQ7:=hid hq7;clear cz hwq hq7 gz
  go_wp2_with fail
  have hp:=set_row5 (a':=.string ⟨#[105,102]⟩) (b':=.string ⟨#[]⟩) (c':=.int .i64 fr) (d':=.int .i64 ez) (e':=.slice (some ⟨z,0,none⟩) 2 2) HQ7.out;refine bodyPost_ret (v:=.agg #[.string ⟨#[105,102]⟩,.string ⟨#[]⟩,.int .i64 fr,.int .i64 ez,.slice (some ⟨z,0,none⟩) 2 2]) (results_cell_row rfl _ _ w.heap.size 25 #[.string ⟨#[105,102]⟩,.string ⟨#[]⟩,.int .i64 fr,.int .i64 ez,.slice (some ⟨z,0,none⟩) 2 2] (0,0) _ (by rfl) hp Tryz.underlying25 rfl (by kernel_rfl)) rfl ?_;rw [← HQ.out];refine reads_end hd (HM1.out.trans (HMq.out.mono HM1.out.size)) HWq.out.1 HAT.out.1 HAT.out.2 ?_ ⟨Nat.le_refl _,Nat.le_refl _⟩;refine partV_list (HL8.out.mv HWq.out.2 (by omega)) (fun g hg=>by omega) (by omega) (fun p j hpj=>?_);rw [← HEZ.out]
  exact HPLL.out p j hpj
 ·have hb:ob.isBad=false∧isT L kElse ob.at=true:=by simpa using HA.out
  have HBD:=hid hb;have hlt:ob.at<L.length:=isT_lt hb.2;obtain ⟨hg1,hg2⟩:=HGom.out (HSoe.out (HSob.out hb.1).1);have hg3:=(HSob.out hb.1).2;have hg4:=HGoe.out;have hg5:=HN.out hg2;have hg6:=HMm.out.1 hg2;have hob:=out_pt hb.1;clear hb
  go_wp2_with fail
  refine c8.mono ?_;rintro x w8 ⟨rfl,hw8⟩;have hw8:Went d lv (ob.at+1) ob.isBad Z w8:=hw8;rw [HBD.out.1] at hw8;have HM8:=hid (HMZ.out.trans (hw8.2.mono HMZ.out.size));have HR8:=hid hw8.1;have HL8:=hid (HLZ.out.mv hw8.2 (by have:=HM1.out.size;omega));have c9:=is_any d L lv (ob.at+1) false kIf w8 HR8.out (HT1.out.mv HM8.out (Nat.le_refl _));rw [show bstr kIf=⟨#[105,102]⟩ from rfl] at c9;obtain ⟨R2,hR2⟩:∃ R,isT L kIf (ob.at+1)=R:=⟨_,rfl⟩;rw [show (!false&&isT L kIf (ob.at+1))=R2 from hR2] at c9;have HA2:=hid hR2;clear c8 hw8 hR2
  cases R2
  ·obtain ⟨oo,hoo⟩:∃ u,block L m (ob.at+1)=u:=⟨_,rfl⟩
   have HO4:Hid (O=oo.next fun o p=>part L kIf [] fr [oe.pt,ob.pt,o] p):=hid (by
    rw [HO3.out,← hoo];have h1:=HBD.out.2;have h2:=HA2.out;rw [hob]
    show (if isT L kElse ob.at=true then _ else _)=_
    rw [if_pos h1,if_neg (by rw [h2];decide)]
    rfl)
   have HFoo:Hid (oo.at≤L.length):=hid (by rw [← hoo];exact ((all_fwdS L m).block _ hlt).le);have Hoo:=hid hoo;clear hoo
   go_wp2_with fail
   refine c9.mono ?_;intro x w4 h4;obtain ⟨rfl,hw4⟩:=h4.went HR8.out;have HMr:=hid (HM8.out.trans (hw4.2.mono HM8.out.size));have HRr:=hid hw4.1;have HLr:=hid (HL8.out.mv hw4.2 (by have:=HM1.out.size;omega));have HTr:=hid (HT1.out.mv HMr.out (Nat.le_refl _));clear c9 h4 hw4;have cb:=HIB.out m (.inl hg6) (ob.at+1) false w4 HRr.out HTr.out hlt (fun _=>by omega);rw [start_false,Hoo.out] at cb
   go_wp2_with fail
   refine cb.mono ?_;rintro x v5 ⟨v,rfl,⟨kb,tb,fb,eb,ab,nb,cb',rfl,hnb,hvb⟩,hw5⟩;have hLx:ListV W1.heap.size oL (.slice (some ⟨z,0,none⟩) 2 2) 2 [.string kx0,.string tx0,.int .i64 fx0,.int .i64 ex0,.slice ax0 nx0 cx0,.string kx1,.string tx1,.int .i64 fx1,.int .i64 ex1,.slice ax1 nx1 cx1] (v5.alloc (.cells #[.string kb,.string tb,.int .i64 fb,.int .i64 eb,.slice ab nb cb'] 25)):=(HLr.out.mv hw5.2 (by have:=HM1.out.size;omega)).mv (Mv.of_below (d:=d) ((Below.refl _ v5).alloc (Nat.le_refl _) _)) (by have:=HM1.out.size;omega);have hbx:Below v5.heap.size v5 (v5.alloc (.cells #[.string kb,.string tb,.int .i64 fb,.int .i64 eb,.slice ab nb cb'] 25)):=(Below.refl _ v5).alloc (Nat.le_refl _) _
   have hsx:W1.heap.size≤(v5.alloc (.cells #[.string kb,.string tb,.int .i64 fb,.int .i64 eb,.slice ab nb cb'] 25)).heap.size:=by have:=hw5.2.size;have:=HMr.out.size;have:=hbx.size;omega
   have HVB:=hid hvb;have HW5:=hid hw5;have HLx:=hid hLx;have HBx:=hid hbx;clear cb hvb hw5 hLx hbx hnb
   go_wp2_with (at_builtin;refine wpList_append_own_at _ rfl _ _ 23 rfl W1.heap.size 25 iP _ 5 72 Tryz.underlying23 hi0 hz0 hz1 hz2 rfl (by decide) _ 2 [.string kx0,.string tx0,.int .i64 fx0,.int .i64 ex0,.slice ax0 nx0 cx0,.string kx1,.string tx1,.int .i64 fx1,.int .i64 ex1,.slice ax1 nx1 cx1] rfl HLx.out.own ⟨v5.heap.size,0,none⟩ 1 1 [.string kb,.string tb,.int .i64 fb,.int .i64 eb,.slice ab nb cb'] rfl rfl (row_news (heap_alloc_new v5 _)) one_part (by unfold maxLen;omega) (by omega) hsx ?_)
   intro v' w7 hown hgrow _ hrow0
   have hrow:v'.ownBlock=(Value.slice (some ⟨z,0,none⟩) 2 2).ownBlock∨v'.ownBlock=some (v5.alloc (.cells #[.string kb,.string tb,.int .i64 fb,.int .i64 eb,.slice ab nb cb'] 25)).heap.size:=by simpa using hrow0
   clear hrow0
   have hown1:∀ k,(Value.slice (some ⟨z,0,none⟩) 2 2).ownBlock=some k→W1.heap.size≤k:=fun k hk=>(HLx.out.own.lt k hk).1
   have hd1:d<W1.heap.size:=by have:=HM1.out.size;omega
   have HR7:Hid (Rd d lv oo.at oo.isBad w7):=hid (by
    have h:=HW5.out.1.below HBx.out
    exact (hgrow.block d h.lt (fun h'=>by have:=hown1 d h'.symm;omega)).trans h)
   have HM7:Hid (Mv W1.heap.size d W1 w7):=hid (HMr.out.trans ((HW5.out.2.mono HMr.out.size).trans (((Mv.of_below HBx.out).mono (by have:=HW5.out.2.size;have:=HMr.out.size;omega)).trans ⟨hgrow.os,hgrow.tape,hgrow.output,hgrow.size,fun k hk _=>hgrow.block k (by omega) (fun h'=>by have:=hown1 k h'.symm;omega)⟩)))
   have HL7:Hid (ListV W1.heap.size (oo.next fun o p=>Out.ok [oe.pt,ob.pt,o] p) v' (2+1) ([.string kx0,.string tx0,.int .i64 fx0,.int .i64 ex0,.slice ax0 nx0 cx0,.string kx1,.string tx1,.int .i64 fx1,.int .i64 ex1,.slice ax1 nx1 cx1]++[.string kb,.string tb,.int .i64 fb,.int .i64 eb,.slice ab nb cb']) w7):=hid (HLx.out.snoc HLr.out (Nat.le_refl _) HMr.out.size HVB.out HBx.out hown hgrow hrow (fun l j hl=>by
    cases oo with
    | bad k=>cases hl
    | ok o k =>
     cases hl
     exact ⟨[oe.pt,ob.pt],ob.at,o,_,by rw [← HoL.out,hob];rfl,rfl,rfl⟩))
   obtain ⟨la,lc,hv'⟩:=HL7.out.form;subst hv';clear hown hgrow hrow hown1 hd1 hsx;have HAT:Hid (O.at=oo.at∧O.isBad=oo.isBad):=hid (by rw [HO4.out];cases oo <;> exact ⟨rfl,rfl⟩)
   have HPLL:Hid (∀ p j,O=.ok p j→∃ K T ks j',p=.mk K T fr (toT L oo.at) ks∧bstr K=⟨#[105,102]⟩∧bstr T=⟨#[]⟩∧(oo.next fun o p=>Out.ok [oe.pt,ob.pt,o] p)=.ok ks j'):=hid (by
    intro p j hpj;rw [HO4.out] at hpj
    cases oo with
    | bad j=>cases hpj
    | ok a j2 =>
     simp only [Out.next,part,Out.ok.injEq] at hpj
     exact ⟨_,_,_,j2,hpj.1.symm,rfl,rfl,rfl⟩)
   have cz:=part_any d L lv oo.at oo.isBad ⟨#[105,102]⟩ ⟨#[]⟩ fr la (2+1) lc w7 HR7.out (HT1.out.mv HM7.out (Nat.le_refl _)) HFoo.out hL;obtain ⟨ez,hez⟩:∃ u,toT L oo.at=u:=⟨_,rfl⟩;rw [hez] at cz;have HEZ:=hid hez;clear hez
   go_wp2_with fail
   refine cz.mono ?_;rintro x wq ⟨rfl,hwq⟩;have HMq:=hid (HM7.out.trans (hwq.2.mono HM7.out.size));have HWq:=hid hwq;have hqw:=(Array.getElem?_eq_some_iff.1 HQ1.out).1;have hq7:wq.heap[w.heap.size]?=_:=(HMq.out.block w.heap.size hqw (by omega)).trans HQ1.out;obtain ⟨⟨r0,r1,r2,r3,r4⟩,gz⟩:=five_cells hq7;have g0:=gz 0;have g1:=gz 1;have g2:=gz 2;have g3:=gz 3;have g4:=gz 4;have HQ7:=hid hq7;clear cz hwq hq7 gz
   go_wp2_with fail
   have hp:=set_row5 (a':=.string ⟨#[105,102]⟩) (b':=.string ⟨#[]⟩) (c':=.int .i64 fr) (d':=.int .i64 ez) (e':=.slice la (2+1) lc) HQ7.out;refine bodyPost_ret (v:=.agg #[.string ⟨#[105,102]⟩,.string ⟨#[]⟩,.int .i64 fr,.int .i64 ez,.slice la (2+1) lc]) (results_cell_row rfl _ _ w.heap.size 25 #[.string ⟨#[105,102]⟩,.string ⟨#[]⟩,.int .i64 fr,.int .i64 ez,.slice la (2+1) lc] (0,0) _ (by rfl) hp Tryz.underlying25 rfl (by kernel_rfl)) rfl ?_;rw [← HQ.out];refine reads_end hd (HM1.out.trans (HMq.out.mono HM1.out.size)) HWq.out.1 HAT.out.1 HAT.out.2 ?_ ⟨Nat.le_refl _,Nat.le_refl _⟩;refine partV_list (HL7.out.mv HWq.out.2 (by omega)) (fun g hg=>by omega) (by omega) (fun p j hpj=>?_);rw [← HEZ.out]
   exact HPLL.out p j hpj
  ·obtain ⟨oo,hoo⟩:∃ u,branch L m (ob.at+1)=u:=⟨_,rfl⟩
   have HO4:Hid (O=oo.next fun o p=>part L kIf [] fr [oe.pt,ob.pt,o] p):=hid (by
    rw [HO3.out,← hoo];have h1:=HBD.out.2;have h2:=HA2.out;rw [hob]
    show (if isT L kElse ob.at=true then _ else _)=_
    rw [if_pos h1,if_pos h2]
    rfl)
   have HFoo:Hid (oo.at≤L.length):=hid (by rw [← hoo];exact ((all_fwdS L m).branch _ hlt).le);have Hoo:=hid hoo;clear hoo
   go_wp2_with fail
   refine c9.mono ?_;intro x w4 h4;obtain ⟨rfl,hw4⟩:=h4.went HR8.out;have HMr:=hid (HM8.out.trans (hw4.2.mono HM8.out.size));have HRr:=hid hw4.1;have HLr:=hid (HL8.out.mv hw4.2 (by have:=HM1.out.size;omega));have HTr:=hid (HT1.out.mv HMr.out (Nat.le_refl _));clear c9 h4 hw4;have cb:=HI.out m hg6 (ob.at+1) false w4 HRr.out HTr.out hlt (fun _=>by omega);rw [start_false,Hoo.out] at cb
   go_wp2_with fail
   refine cb.mono ?_;rintro x v5 ⟨v,rfl,⟨kb,tb,fb,eb,ab,nb,cb',rfl,hnb,hvb⟩,hw5⟩;have hLx:ListV W1.heap.size oL (.slice (some ⟨z,0,none⟩) 2 2) 2 [.string kx0,.string tx0,.int .i64 fx0,.int .i64 ex0,.slice ax0 nx0 cx0,.string kx1,.string tx1,.int .i64 fx1,.int .i64 ex1,.slice ax1 nx1 cx1] (v5.alloc (.cells #[.string kb,.string tb,.int .i64 fb,.int .i64 eb,.slice ab nb cb'] 25)):=(HLr.out.mv hw5.2 (by have:=HM1.out.size;omega)).mv (Mv.of_below (d:=d) ((Below.refl _ v5).alloc (Nat.le_refl _) _)) (by have:=HM1.out.size;omega);have hbx:Below v5.heap.size v5 (v5.alloc (.cells #[.string kb,.string tb,.int .i64 fb,.int .i64 eb,.slice ab nb cb'] 25)):=(Below.refl _ v5).alloc (Nat.le_refl _) _
   have hsx:W1.heap.size≤(v5.alloc (.cells #[.string kb,.string tb,.int .i64 fb,.int .i64 eb,.slice ab nb cb'] 25)).heap.size:=by have:=hw5.2.size;have:=HMr.out.size;have:=hbx.size;omega
   have HVB:=hid hvb;have HW5:=hid hw5;have HLx:=hid hLx;have HBx:=hid hbx;clear cb hvb hw5 hLx hbx hnb
   go_wp2_with (at_builtin;refine wpList_append_own_at _ rfl _ _ 23 rfl W1.heap.size 25 iP _ 5 72 Tryz.underlying23 hi0 hz0 hz1 hz2 rfl (by decide) _ 2 [.string kx0,.string tx0,.int .i64 fx0,.int .i64 ex0,.slice ax0 nx0 cx0,.string kx1,.string tx1,.int .i64 fx1,.int .i64 ex1,.slice ax1 nx1 cx1] rfl HLx.out.own ⟨v5.heap.size,0,none⟩ 1 1 [.string kb,.string tb,.int .i64 fb,.int .i64 eb,.slice ab nb cb'] rfl rfl (row_news (heap_alloc_new v5 _)) one_part (by unfold maxLen;omega) (by omega) hsx ?_)
   intro v' w7 hown hgrow _ hrow0
   have hrow:v'.ownBlock=(Value.slice (some ⟨z,0,none⟩) 2 2).ownBlock∨v'.ownBlock=some (v5.alloc (.cells #[.string kb,.string tb,.int .i64 fb,.int .i64 eb,.slice ab nb cb'] 25)).heap.size:=by simpa using hrow0
   clear hrow0
   have hown1:∀ k,(Value.slice (some ⟨z,0,none⟩) 2 2).ownBlock=some k→W1.heap.size≤k:=fun k hk=>(HLx.out.own.lt k hk).1
   have hd1:d<W1.heap.size:=by have:=HM1.out.size;omega
   have HR7:Hid (Rd d lv oo.at oo.isBad w7):=hid (by
    have h:=HW5.out.1.below HBx.out
    exact (hgrow.block d h.lt (fun h'=>by have:=hown1 d h'.symm;omega)).trans h)
   have HM7:Hid (Mv W1.heap.size d W1 w7):=hid (HMr.out.trans ((HW5.out.2.mono HMr.out.size).trans (((Mv.of_below HBx.out).mono (by have:=HW5.out.2.size;have:=HMr.out.size;omega)).trans ⟨hgrow.os,hgrow.tape,hgrow.output,hgrow.size,fun k hk _=>hgrow.block k (by omega) (fun h'=>by have:=hown1 k h'.symm;omega)⟩)))
   have HL7:Hid (ListV W1.heap.size (oo.next fun o p=>Out.ok [oe.pt,ob.pt,o] p) v' (2+1) ([.string kx0,.string tx0,.int .i64 fx0,.int .i64 ex0,.slice ax0 nx0 cx0,.string kx1,.string tx1,.int .i64 fx1,.int .i64 ex1,.slice ax1 nx1 cx1]++[.string kb,.string tb,.int .i64 fb,.int .i64 eb,.slice ab nb cb']) w7):=hid (HLx.out.snoc HLr.out (Nat.le_refl _) HMr.out.size HVB.out HBx.out hown hgrow hrow (fun l j hl=>by
    cases oo with
    | bad k=>cases hl
    | ok o k =>
     cases hl
     exact ⟨[oe.pt,ob.pt],ob.at,o,_,by rw [← HoL.out,hob];rfl,rfl,rfl⟩))
   obtain ⟨la,lc,hv'⟩:=HL7.out.form;subst hv';clear hown hgrow hrow hown1 hd1 hsx;have HAT:Hid (O.at=oo.at∧O.isBad=oo.isBad):=hid (by rw [HO4.out];cases oo <;> exact ⟨rfl,rfl⟩)
   have HPLL:Hid (∀ p j,O=.ok p j→∃ K T ks j',p=.mk K T fr (toT L oo.at) ks∧bstr K=⟨#[105,102]⟩∧bstr T=⟨#[]⟩∧(oo.next fun o p=>Out.ok [oe.pt,ob.pt,o] p)=.ok ks j'):=hid (by
    intro p j hpj;rw [HO4.out] at hpj
    cases oo with
    | bad j=>cases hpj
    | ok a j2 =>
     simp only [Out.next,part,Out.ok.injEq] at hpj
     exact ⟨_,_,_,j2,hpj.1.symm,rfl,rfl,rfl⟩)
   have cz:=part_any d L lv oo.at oo.isBad ⟨#[105,102]⟩ ⟨#[]⟩ fr la (2+1) lc w7 HR7.out (HT1.out.mv HM7.out (Nat.le_refl _)) HFoo.out hL;obtain ⟨ez,hez⟩:∃ u,toT L oo.at=u:=⟨_,rfl⟩;rw [hez] at cz;have HEZ:=hid hez;clear hez
   go_wp2_with fail
   refine cz.mono ?_;rintro x wq ⟨rfl,hwq⟩;have HMq:=hid (HM7.out.trans (hwq.2.mono HM7.out.size));have HWq:=hid hwq;have hqw:=(Array.getElem?_eq_some_iff.1 HQ1.out).1;have hq7:wq.heap[w.heap.size]?=_:=(HMq.out.block w.heap.size hqw (by omega)).trans HQ1.out;obtain ⟨⟨r0,r1,r2,r3,r4⟩,gz⟩:=five_cells hq7;have g0:=gz 0;have g1:=gz 1;have g2:=gz 2;have g3:=gz 3;have g4:=gz 4;have HQ7:=hid hq7;clear cz hwq hq7 gz
   go_wp2_with fail
   have hp:=set_row5 (a':=.string ⟨#[105,102]⟩) (b':=.string ⟨#[]⟩) (c':=.int .i64 fr) (d':=.int .i64 ez) (e':=.slice la (2+1) lc) HQ7.out;refine bodyPost_ret (v:=.agg #[.string ⟨#[105,102]⟩,.string ⟨#[]⟩,.int .i64 fr,.int .i64 ez,.slice la (2+1) lc]) (results_cell_row rfl _ _ w.heap.size 25 #[.string ⟨#[105,102]⟩,.string ⟨#[]⟩,.int .i64 fr,.int .i64 ez,.slice la (2+1) lc] (0,0) _ (by rfl) hp Tryz.underlying25 rfl (by kernel_rfl)) rfl ?_;rw [← HQ.out];refine reads_end hd (HM1.out.trans (HMq.out.mono HM1.out.size)) HWq.out.1 HAT.out.1 HAT.out.2 ?_ ⟨Nat.le_refl _,Nat.le_refl _⟩;refine partV_list (HL7.out.mv HWq.out.2 (by omega)) (fun g hg=>by omega) (by omega) (fun p j hpj=>?_);rw [← HEZ.out]
   exact HPLL.out p j hpj
end Go.Proofs.YtmclaaonlhnbmaaGreatDoor.T
