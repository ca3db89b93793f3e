/- What the claim needs of the texts TTyped, TSmall, TStr, TFwd2, TLive. -/
import Derived.Test.YtmclaaonlhnbmaaGreatDoorROp
import Derived.Test.YtmclaaonlhnbmaaGreatDoorR12
import Derived.Test.YtmclaaonlhnbmaaGreatDoorR2
namespace Go.Proofs.YtmclaaonlhnbmaaGreatDoor.T
open Go.RowKit
open Go.Lib hiding intOf
open U S L
abbrev zeroP:Obj:=.cells #[.string ⟨#[]⟩,.string ⟨#[]⟩,.int .i64 0,.int .i64 0,.slice none 0 0] 25
theorem kid_one {W W':World} {R:Nat→Prop} {x:Pt} {q:Nat} {k t:ByteArray} {f e:Int} {a:Option Addr} {n c:Nat} {ty:TypeId} (hv:(.agg #[.string k,.string t,.int .i64 f,.int .i64 e,.slice a n c]:Value)=.agg (five x (.slice a n c)).toArray) (hk:KidsIn W R x (.slice a n c)) (hs:Still R W W') (hq:W'.heap[q]?=some (.cells #[.string k,.string t,.int .i64 f,.int .i64 e,.slice a n c] ty (0,0)))
  (R':Nat→Prop) (hR:∀ g,R g→R' g) (hRq:R' q) (K T:By) (F E:Int):KidsIn W' R' (.mk K T F E [x]) (.slice (some ⟨q,0,none⟩) 1 1):=by
 have hx:five x (.slice a n c)=[.string k,.string t,.int .i64 f,.int .i64 e,.slice a n c]:=by
  have h1:=congrArg (fun v:Value=>match v with|.agg xs=>xs.toList|_=>[]) hv
  simpa using h1.symm
 refine ⟨_,1,rfl,Nat.le_refl _,.inr ⟨q,0,five x (.slice a n c),rfl,hRq,?_,?_⟩⟩
 ·rw [hx]
  obtain ⟨⟨c0,c1,c2,c3,c4⟩,_⟩:=five_cells hq;intro j u hj;rw [Nat.zero_add];have hj2:=(List.getElem?_eq_some_iff.1 hj).1
  match j,hj2 with
  | 0,_=>simp at hj;subst hj;exact c0
  | 1,_=>simp at hj;subst hj;exact c1
  | 2,_=>simp at hj;subst hj;exact c2
  | 3,_=>simp at hj;subst hj;exact c3
  | 4,_=>simp at hj;subst hj;exact c4
 ·exact ⟨.slice a n c,[],by simp,hk.later hs hR,rfl⟩
theorem kids_none (W:World) (R:Nat→Prop) (K T:By) (F E:Int):KidsIn W R (.mk K T F E []) (.slice none 0 0):=⟨none,0,rfl,Nat.le_refl _,.inl rfl⟩
theorem Mv.still {B d:Nat} {w w':World} (h:Mv B d w w') {R:Nat→Prop} (hB:w.heap.size≤B) (hd:∀ g,R g→g≠d):Still R w w':=fun g hg hl=>h.block g (by omega) (hd g hg)
theorem five_stores {B d q:Nat} {w:World} {a b c e f:Value} (hq:B≤q):Mv B d w (((((w.setCell ⟨q,0,none⟩ a).setCell ⟨q,1,none⟩ b).setCell ⟨q,2,none⟩ c).setCell ⟨q,3,none⟩ e).setCell ⟨q,4,none⟩ f) :=
 Mv.of_below ((((((Below.refl B w).setCell (p:=⟨q,0,none⟩) hq _).setCell (p:=⟨q,1,none⟩) hq _).setCell (p:=⟨q,2,none⟩) hq _).setCell (p:=⟨q,3,none⟩) hq _).setCell (p:=⟨q,4,none⟩) hq _)
theorem reads_end {d i:Nat} {b:Bool} {lv v x0 x1 x2 x3 x4:Value} {O:Out Pt} {w w':World} (hd:d<w.heap.size) (hM:Mv w.heap.size d w w') (hR:Rd d lv i b w') (hi:O.at=i) (hb:O.isBad=b) (hP:PartV w' (fun g=>w.heap.size<g) O v) {q:Nat} (hq:q≤w.heap.size∧w.heap.size≤q) :
  Reads d lv O w (.returned v) (((((w'.setCell ⟨q,0,none⟩ x0).setCell ⟨q,1,none⟩ x1).setCell ⟨q,2,none⟩ x2).setCell ⟨q,3,none⟩ x3).setCell ⟨q,4,none⟩ x4):=by
 obtain rfl:q=w.heap.size:=by omega
 subst hi hb;have h5:=five_stores (d:=d) (w:=w') (a:=x0) (b:=x1) (c:=x2) (e:=x3) (f:=x4) (Nat.le_refl w.heap.size)
 refine ⟨v,rfl,?_,?_,hM.trans h5⟩
 ·obtain ⟨k,t,f,e,a,n,c,h1,h2,h3⟩:=hP
  refine ⟨k,t,f,e,a,n,c,h1,h2,fun p j hpj=>⟨(h3 p j hpj).1,(h3 p j hpj).2.later ?_ (fun g hg=>Nat.le_of_lt hg)⟩⟩;intro g hg hl
  repeat rw [Below.heap_setCell _ _ _ _ (by show g≠w.heap.size;omega)]
 ·have h6:(((((w'.setCell ⟨w.heap.size,0,none⟩ x0).setCell ⟨w.heap.size,1,none⟩ x1).setCell ⟨w.heap.size,2,none⟩ x2).setCell ⟨w.heap.size,3,none⟩ x3).setCell ⟨w.heap.size,4,none⟩ x4).heap[d]?=w'.heap[d]?:=by
   repeat rw [Below.heap_setCell _ _ _ _ (by show d≠w.heap.size;omega)]
  unfold Rd
  rw [h6];exact hR
theorem out_part {o:Out Pt} {L:List TokP} {K T:By} {F:Int} (g:Pt→List Pt):(o.next fun x j=>part L K T F (g x) j).at=o.at∧(o.next fun x j=>part L K T F (g x) j).isBad=o.isBad:=by cases o <;> exact ⟨rfl,rfl⟩
theorem partV_one {W W':World} {R R':Nat→Prop} {o:Out Pt} {L:List TokP} {K T:By} {F E:Int} {k t:ByteArray} {f e:Int} {a:Option Addr} {n c q:Nat} {ty:TypeId}
  (hV:∀ p j,o=.ok p j→(.agg #[.string k,.string t,.int .i64 f,.int .i64 e,.slice a n c]:Value)=.agg (five p (.slice a n c)).toArray∧KidsIn W R p (.slice a n c))
  (hs:Still R W W') (hq:W'.heap[q]?=some (.cells #[.string k,.string t,.int .i64 f,.int .i64 e,.slice a n c] ty (0,0))) (hR:∀ g,R g→R' g) (hRq:R' q) (hE:toT L o.at=E) :
  PartV W' R' (o.next fun x j=>part L K T F [x] j) (.agg #[.string (bstr K),.string (bstr T),.int .i64 F,.int .i64 E,.slice (some ⟨q,0,none⟩) 1 1]):=by
 refine ⟨_,_,_,_,_,_,_,rfl,by omega,?_⟩;intro p j hpj
 cases o with
 | bad j'=>cases hpj
 | ok x j' =>
  obtain ⟨h1,h2⟩:=hV x j' rfl;simp only [Out.next,part,Out.ok.injEq] at hpj;obtain ⟨rfl,rfl⟩:=hpj;have hE':toT L j'=E:=hE;rw [hE']
  exact ⟨rfl,kid_one h1 h2 hs hq R' hR hRq K T F E⟩
theorem next_const {α β:Type} (o:Out α) (f:Nat→Out β):(o.next fun _ j=>f j)=start o.isBad o.at (f o.at):=by cases o <;> rfl
theorem next_next {α β γ:Type} (o:Out α) (f:α→Nat→Out β) (g:β→Nat→Out γ):(o.next f).next g=o.next fun a j=>(f a j).next g:=by cases o <;> rfl
theorem start_false {α:Type} (i:Nat) (o:Out α):start false i o=o:=rfl
theorem start_le {α:Type} {L:List TokP} {i:Nat} {o:Out α} (b:Bool) (hi:i≤L.length) (h:o.at≤L.length):(start b i o).at≤L.length:=by cases b;exact h;exact hi
theorem partV_none {W:World} {R:Nat→Prop} {o:Out By} {L:List TokP} {K:By} {F E:Int} (hE:toT L o.at=E) :
  PartV W R (o.next fun s j=>part L K s F [] j) (.agg #[.string (bstr K),.string (nameV o),.int .i64 F,.int .i64 E,.slice none 0 0]):=by
 refine ⟨_,_,_,_,_,_,_,rfl,by omega,?_⟩;intro p j hpj
 cases o with
 | bad j'=>cases hpj
 | ok x j' =>
  simp only [Out.next,part,Out.ok.injEq] at hpj;obtain ⟨rfl,rfl⟩:=hpj;have hE':toT L j'=E:=hE;rw [hE']
  exact ⟨rfl,kids_none W R K x F E⟩
theorem out_name {o:Out By} {L:List TokP} {K:By} {F:Int}:(o.next fun s j=>part L K s F [] j).at=o.at∧(o.next fun s j=>part L K s F [] j).isBad=o.isBad:=by cases o <;> exact ⟨rfl,rfl⟩
def TypedAt (d:Nat) (L:List TokP) (lv:Value) (n:Nat):Prop:=∀ (i:Nat) (b:Bool) (w:World),Rd d lv i b w→Tk d L lv w→i≤L.length→(b=false→2*(L.length - i)+1≤n) →
 Calls Tryz.prog 50 #[.pointer (some ⟨d,0,none⟩)] w (Reads d lv (start b i (typed L n i)) w)
set_option maxHeartbeats 16000000 in
set_option maxRecDepth 20000 in
theorem typed_step (d:Nat) (L:List TokP) (lv:Value) (hL:L.length≤1000000) (n:Nat) (ih:∀ m,n=m+1→TypedAt d L lv m):TypedAt d L lv n:=by
 intro i b w hR hT hi hn;have hd:=hR.lt;obtain ⟨W1,hW1⟩:∃ W1,w.alloc zeroP=W1:=⟨_,rfl⟩
 have hb1:Below w.heap.size w W1:=by rw [← hW1];exact (Below.refl _ w).alloc (Nat.le_refl _) _
 have HM1:=hid (Mv.of_below (d:=d) hb1)
 have hq1:W1.heap[w.heap.size]?=some (.cells #[.string ⟨#[]⟩,.string ⟨#[]⟩,.int .i64 0,.int .i64 0,.slice none 0 0] 25 (0,0)):=by rw [← hW1];exact heap_alloc_new w _
 have hR1:Rd d lv i b W1:=hR.below hb1;have hT1:=hT.mv (Mv.of_below hb1) (Nat.le_refl _);have c1:=from_any d L lv i b W1 hR1 hT1;obtain ⟨fr,hfr⟩:∃ fr,fromT L i=fr:=⟨_,rfl⟩;rw [hfr] at c1;have HW1:=hid hW1;have HQ1:=hid hq1;have HB1:=hid hb1;have HR1:=hid hR1;have HT1:=hid hT1;have HFR:=hid hfr;have HN:=hid hn;have HIH:=hid ih;obtain ⟨O,hO⟩:∃ O,start b i (typed L n i)=O:=⟨_,rfl⟩;have HO:=hid hO;rw [hO];obtain ⟨Q,hQ⟩:∃ Q,Reads d lv O w=Q:=⟨_,rfl⟩;have HQ:=hid hQ;rw [hQ];clear hW1 hq1 hb1 hR1 hT1 hfr hn ih hO hQ hR hT
 go_enter Tryz.func50,Tryz.ntmps50
 go_wp2_with fail
 rw [HW1.out];refine c1.mono ?_;intro x w2 h2;obtain ⟨rfl,hw2⟩:=h2.went HR1.out;have HM2:=hid hw2.2;have HR2:=hid hw2.1;have hT2:=HT1.out.mv hw2.2 (Nat.le_refl _);have c2:=take_any d L lv i b [42] w2 hw2.1 hT2 (by omega);have HT2:=hid hT2;obtain ⟨R1,hR1⟩:∃ R1,(!b&&isT L [42] i)=R1:=⟨_,rfl⟩;rw [hR1] at c2;have HA1:=hid hR1;rw [show bstr [42]=⟨#[42]⟩ from rfl] at c2;clear c1 h2 hw2 hT2 hR1
 cases R1
 ·go_wp2_with fail
  refine c2.mono ?_;rintro x w3 ⟨rfl,hw3⟩;have hw3:Went d lv i b w2 w3:=hw3;have hT3:=HT2.out.mv hw3.2 (Nat.le_refl _);have c3:=take_any d L lv i b [91] w3 hw3.1 hT3 (by omega);have HT3:=hid hT3;have HR3:=hid hw3.1;have HM3:=hid (HM2.out.trans (hw3.2.mono HM2.out.size));obtain ⟨R2,hR2⟩:∃ R2,(!b&&isT L [91] i)=R2:=⟨_,rfl⟩;rw [hR2] at c3;have HA2:=hid hR2;rw [show bstr [91]=⟨#[91]⟩ from rfl] at c3;clear c2 hw3 hT3 hR2
  cases R2
  ·obtain ⟨nm,hnm⟩:∃ nm,start b i (nameT L i)=nm:=⟨_,rfl⟩
   have HOO:Hid (O=nm.next fun s j=>part L kName s fr [] j):=hid (by
    rw [← HO.out,← HFR.out,← hnm];have h1:=HA1.out;have h2:=HA2.out
    cases b
    ·obtain ⟨m,rfl⟩:∃ m,n=m+1:=⟨n - 1,by have:=HN.out (by trivial);omega⟩
     rw [typed_succ,if_neg (by simpa using h1),if_neg (by simpa using h2)]
     rfl
    ·rfl)
   have HFW:Hid (nm.at≤L.length):=hid (by rw [← hnm];exact start_le b hi (nameT_fwd hi).le);have HNM:=hid hnm;clear hnm
   go_wp2_with fail
   refine c3.mono ?_;rintro x w4 ⟨rfl,hw4⟩;have hw4:Went d lv i b w3 w4:=hw4;have c4:=name_any10 d L lv i b w4 hw4.1 (HT3.out.mv hw4.2 (Nat.le_refl _)) (by omega);rw [HNM.out] at c4;have HM4:=hid (HM3.out.trans (hw4.2.mono HM3.out.size));obtain ⟨sv,hsv⟩:∃ sv,nameV nm=sv:=⟨_,rfl⟩;rw [hsv] at c4;have HSV:=hid hsv;clear c3 hw4 hsv
   go_wp2_with fail
   refine c4.mono ?_;rintro x w5 ⟨rfl,hw5⟩;have HM5:=hid (HM4.out.trans (hw5.2.mono HM4.out.size));have c5:=part_any d L lv nm.at nm.isBad ⟨#[110,97,109,101]⟩ sv fr none 0 0 w5 hw5.1 (HT1.out.mv HM5.out (Nat.le_refl _)) HFW.out hL;obtain ⟨e6,he6⟩:∃ e6,toT L nm.at=e6:=⟨_,rfl⟩;rw [he6] at c5;have HE6:=hid he6;clear c4 hw5 he6
   go_wp2_with fail
   refine c5.mono ?_;rintro x w7 ⟨rfl,hw7⟩;have HM7:=hid (HM5.out.trans (hw7.2.mono HM5.out.size));have hqw:=(Array.getElem?_eq_some_iff.1 HQ1.out).1;have hq7:w7.heap[w.heap.size]?=_:=(HM7.out.block w.heap.size hqw (by omega)).trans HQ1.out;obtain ⟨⟨r0,r1,r2,r3,r4⟩,gz⟩:=five_cells hq7;have g0:=gz 0;have g1:=gz 1;have g2:=gz 2;have g3:=gz 3;have g4:=gz 4;have HQ7:=hid hq7;have HW7:=hid hw7;clear c5 hw7 hq7 gz
   go_wp2_with fail
   have hp:=set_row5 (a':=.string ⟨#[110,97,109,101]⟩) (b':=.string sv) (c':=.int .i64 fr) (d':=.int .i64 e6) (e':=.slice none 0 0) HQ7.out;refine bodyPost_ret (v:=.agg #[.string ⟨#[110,97,109,101]⟩,.string sv,.int .i64 fr,.int .i64 e6,.slice none 0 0]) (results_cell_row rfl _ _ w.heap.size 25 #[.string ⟨#[110,97,109,101]⟩,.string sv,.int .i64 fr,.int .i64 e6,.slice none 0 0] (0,0) _ (by rfl) hp Tryz.underlying25 rfl (by kernel_rfl)) rfl ?_;rw [← HQ.out,HOO.out];refine reads_end hd (HM1.out.trans (HM7.out.mono HM1.out.size)) HW7.out.1 out_name.1 out_name.2 ?_ ⟨Nat.le_refl _,Nat.le_refl _⟩;rw [← HSV.out]
   exact partV_none (K:=kName) HE6.out
  ·have hb:b=false∧isT L [91] i=true:=by simpa using HA2.out
   obtain ⟨rfl,his⟩:=hb;have hil:i<L.length:=isT_lt his;obtain ⟨m,rfl⟩:∃ m,n=m+1:=⟨n - 1,by have:=HN.out (by trivial);omega⟩;obtain ⟨o1,ho1⟩:∃ o1,mustT L [93] (i+1)=o1:=⟨_,rfl⟩;obtain ⟨o,ho⟩:∃ o,start o1.isBad o1.at (typed L m o1.at)=o:=⟨_,rfl⟩
   have HOO:Hid (O=o.next fun x j=>part L kSlice [] fr [x] j):=hid (by
    rw [← HO.out,← HFR.out,← ho,← next_const o1 (typed L m),next_next,← ho1]
    show typed L (m+1) i=_
    rw [typed_succ,if_neg (by simpa using HA1.out),if_pos his])
   have hF1:Fwd L (i+1) o1:=by rw [← ho1];exact mustT_fwd _ hil
   have HFW:Hid (o.at≤L.length):=hid (by rw [← ho];exact start_le _ hF1.le (typed_fwd m o1.at hF1.le).le);have HF1:=hid hF1
   go_wp2_with fail
   refine c3.mono ?_;rintro x w3a ⟨rfl,hw3a⟩;have hw3a:Went d lv (i+1) false w3 w3a:=hw3a;have c3a:=must_any d L lv (i+1) false [93] w3a hw3a.1 (HT3.out.mv hw3a.2 (Nat.le_refl _)) (by omega);rw [start_false,ho1,show bstr [93]=⟨#[93]⟩ from rfl] at c3a;have HM3a:=hid (HM3.out.trans (hw3a.2.mono HM3.out.size));have HO1:=hid ho;clear c3 hw3a ho1 ho hF1 his
   go_wp2_with fail
   refine c3a.mono ?_;rintro x w3b ⟨rfl,hw3b⟩;have HM3b:=hid (HM3a.out.trans (hw3b.2.mono HM3a.out.size));have c3b:=HIH.out m rfl o1.at o1.isBad w3b hw3b.1 (HT1.out.mv HM3b.out (Nat.le_refl _)) HF1.out.le (fun _=>by have:=HN.out (by trivial);have:=HF1.out.ge;omega);rw [HO1.out] at c3b;clear c3a hw3b
   go_wp2_with fail
   refine c3b.mono ?_;rintro x w4 ⟨v,rfl,⟨k,t,f,e,a,n,c,rfl,hnn,hv⟩,hw4⟩;have HV:=hid hv;have HW4:=hid hw4;clear c3b hv hw4
   go_upto_region 10 with fail
   obtain ⟨q,hq⟩:∃ q,w4.heap.size=q:=⟨_,rfl⟩;obtain ⟨W5,hW5⟩:∃ W5,w4.alloc (.cells #[.string k,.string t,.int .i64 f,.int .i64 e,.slice a n c] 25)=W5:=⟨_,rfl⟩
   have hb5:Below w4.heap.size w4 W5:=by rw [← hW5];exact (Below.refl _ w4).alloc (Nat.le_refl _) _
   have hq5:W5.heap[w4.heap.size]?=some (.cells #[.string k,.string t,.int .i64 f,.int .i64 e,.slice a n c] 25 (0,0)):=by rw [← hW5];exact heap_alloc_new w4 _
   rw [hq] at hq5;rw [hW5,hq];obtain ⟨⟨p0,p1,p2,p3,p4⟩,fz⟩:=five_cells hq5;clear hW5;have HM4:=hid (HM3b.out.trans (HW4.out.2.mono HM3b.out.size));have HM5:=hid (HM4.out.trans ((Mv.of_below hb5).mono HM4.out.size));obtain ⟨W6,hW6⟩:∃ W6,W5.alloc (.cells #[.string k,.string t,.int .i64 f,.int .i64 e,.slice a n c] 25)=W6:=⟨_,rfl⟩
   have hb6:Below W5.heap.size W5 W6:=by rw [← hW6];exact (Below.refl _ W5).alloc (Nat.le_refl _) _
   have hq6:W6.heap[W5.heap.size]?=some (.cells #[.string k,.string t,.int .i64 f,.int .i64 e,.slice a n c] 25 (0,0)):=by rw [← hW6];exact heap_alloc_new W5 _
   have HM6:=hid (HM5.out.trans ((Mv.of_below hb6).mono HM5.out.size));have HR6:Hid (Rd d lv o.at o.isBad W6):=hid ((HW4.out.1.below hb5).below hb6);have c6:=part_any d L lv o.at o.isBad ⟨#[115,108,105,99,101]⟩ ⟨#[]⟩ fr (some ⟨W5.heap.size,0,none⟩) 1 1 W6 HR6.out (HT1.out.mv HM6.out (Nat.le_refl _)) (HFW.out) hL;obtain ⟨e6,he6⟩:∃ e6,toT L o.at=e6:=⟨_,rfl⟩;rw [he6] at c6;have HB5:=hid hb5;have HQ6:=hid hq6;have HE6:=hid he6;clear hq6 hb6 hb5 he6
   go_wp2_with fail
   refine c6.mono ?_;rintro x w7 ⟨rfl,hw7⟩;have HM7:=hid (HM6.out.trans (hw7.2.mono HM6.out.size));have hqw:=(Array.getElem?_eq_some_iff.1 HQ1.out).1;have hq7:w7.heap[w.heap.size]?=_:=(HM7.out.block w.heap.size hqw (by omega)).trans HQ1.out;obtain ⟨⟨r0,r1,r2,r3,r4⟩,gz⟩:=five_cells hq7;have g0:=gz 0;have g1:=gz 1;have g2:=gz 2;have g3:=gz 3;have g4:=gz 4;have HQ7:=hid hq7;have HW7:=hid hw7;have HW6:=hid hW6;clear c6 hw7 hq7 hq5 gz fz p0 p1 p2 p3 p4 hW6
   go_wp2_with fail
   have hp:=set_row5 (a':=.string ⟨#[115,108,105,99,101]⟩) (b':=.string ⟨#[]⟩) (c':=.int .i64 fr) (d':=.int .i64 e6) (e':=.slice (some ⟨W5.heap.size,0,none⟩) 1 1) HQ7.out;refine bodyPost_ret (v:=.agg #[.string ⟨#[115,108,105,99,101]⟩,.string ⟨#[]⟩,.int .i64 fr,.int .i64 e6,.slice (some ⟨W5.heap.size,0,none⟩) 1 1]) (results_cell_row rfl _ _ w.heap.size 25 #[.string ⟨#[115,108,105,99,101]⟩,.string ⟨#[]⟩,.int .i64 fr,.int .i64 e6,.slice (some ⟨W5.heap.size,0,none⟩) 1 1] (0,0) _ (by rfl) hp Tryz.underlying25 rfl (by kernel_rfl)) rfl ?_;rw [← HQ.out,HOO.out];have s1:=HM1.out.size;have s3:=HM3b.out.size;have s4:=HW4.out.2.size;have s5:=HB5.out.size;have s6:=(Array.getElem?_eq_some_iff.1 HQ6.out).1;have hs:Mv w4.heap.size d w4 w7:=(Mv.of_below HB5.out).trans (((Mv.of_below (by rw [← HW6.out];exact (Below.refl _ W5).alloc (Nat.le_refl _) _)).trans (HW7.out.2.mono (by rw [← HW6.out];simp))).mono s5);refine reads_end hd (HM1.out.trans (HM7.out.mono s1)) HW7.out.1 (out_part _).1 (out_part _).2 ?_ ⟨Nat.le_refl _,Nat.le_refl _⟩
   exact partV_one (K:=kSlice) (T:=[]) HV.out (hs.still (Nat.le_refl _) (fun g hg=>by omega)) ((HW7.out.2.block _ s6 (by omega)).trans HQ6.out) (fun g hg=>by omega) (by omega) (by exact HE6.out)
 ·have hb:b=false∧isT L [42] i=true:=by simpa using HA1.out
  obtain ⟨rfl,his⟩:=hb
  have hil:i<L.length:=by
   by_cases h:i<L.length
   ·exact h
   ·rw [isT_out _ h] at his;cases his
  obtain ⟨m,rfl⟩:∃ m,n=m+1:=⟨n - 1,by have:=HN.out (by trivial);omega⟩
  have HOO:Hid (O=(typed L m (i+1)).next fun x j=>part L kStar [] fr [x] j):=hid (by
   rw [← HO.out,← HFR.out]
   show typed L (m+1) i=_
   rw [typed_succ,if_pos his])
  go_wp2_with fail
  refine c2.mono ?_;rintro x w3 ⟨rfl,hw3⟩;have hT3:=HT2.out.mv hw3.2 (Nat.le_refl _);have c3:=HIH.out m rfl (i+1) false w3 hw3.1 hT3 (by omega) (fun _=>by have:=HN.out (by trivial);omega);have HT3:=hid hT3;have HM3:=hid (HM2.out.trans (hw3.2.mono HM2.out.size));obtain ⟨o,ho⟩:∃ o,typed L m (i+1)=o:=⟨_,rfl⟩;rw [show start false (i+1) (typed L m (i+1))=typed L m (i+1) from rfl,ho] at c3;rw [ho] at HOO;have HFW:Hid (Fwd L (i+1) o):=hid (by rw [← ho];exact typed_fwd m (i+1) (by omega));clear c2 hw3 hT3 ho his
  go_wp2_with fail
  refine c3.mono ?_;rintro x w4 ⟨v,rfl,⟨k,t,f,e,a,n,c,rfl,hnn,hv⟩,hw4⟩;have HV:=hid hv;have HW4:=hid hw4;clear c3 hv hw4
  go_upto_region 5 with fail
  obtain ⟨q,hq⟩:∃ q,w4.heap.size=q:=⟨_,rfl⟩;obtain ⟨W5,hW5⟩:∃ W5,w4.alloc (.cells #[.string k,.string t,.int .i64 f,.int .i64 e,.slice a n c] 25)=W5:=⟨_,rfl⟩
  have hb5:Below w4.heap.size w4 W5:=by rw [← hW5];exact (Below.refl _ w4).alloc (Nat.le_refl _) _
  have hq5:W5.heap[w4.heap.size]?=some (.cells #[.string k,.string t,.int .i64 f,.int .i64 e,.slice a n c] 25 (0,0)):=by rw [← hW5];exact heap_alloc_new w4 _
  rw [hq] at hq5;rw [hW5,hq];obtain ⟨⟨p0,p1,p2,p3,p4⟩,fz⟩:=five_cells hq5;clear hW5;have HM4:=hid (HM3.out.trans (HW4.out.2.mono HM3.out.size));have HM5:=hid (HM4.out.trans ((Mv.of_below hb5).mono HM4.out.size));obtain ⟨W6,hW6⟩:∃ W6,W5.alloc (.cells #[.string k,.string t,.int .i64 f,.int .i64 e,.slice a n c] 25)=W6:=⟨_,rfl⟩
  have hb6:Below W5.heap.size W5 W6:=by rw [← hW6];exact (Below.refl _ W5).alloc (Nat.le_refl _) _
  have hq6:W6.heap[W5.heap.size]?=some (.cells #[.string k,.string t,.int .i64 f,.int .i64 e,.slice a n c] 25 (0,0)):=by rw [← hW6];exact heap_alloc_new W5 _
  have HM6:=hid (HM5.out.trans ((Mv.of_below hb6).mono HM5.out.size));have HR6:Hid (Rd d lv o.at o.isBad W6):=hid ((HW4.out.1.below hb5).below hb6);have c6:=part_any d L lv o.at o.isBad ⟨#[115,116,97,114]⟩ ⟨#[]⟩ fr (some ⟨W5.heap.size,0,none⟩) 1 1 W6 HR6.out (HT1.out.mv HM6.out (Nat.le_refl _)) (HFW.out.le) hL;obtain ⟨e6,he6⟩:∃ e6,toT L o.at=e6:=⟨_,rfl⟩;rw [he6] at c6;have HB5:=hid hb5;have HQ6:=hid hq6;have HE6:=hid he6;clear hq6 hb6 hb5 he6
  go_wp2_with fail
  refine c6.mono ?_;rintro x w7 ⟨rfl,hw7⟩;have HM7:=hid (HM6.out.trans (hw7.2.mono HM6.out.size));have hqw:=(Array.getElem?_eq_some_iff.1 HQ1.out).1;have hq7:w7.heap[w.heap.size]?=_:=(HM7.out.block w.heap.size hqw (by omega)).trans HQ1.out;obtain ⟨⟨r0,r1,r2,r3,r4⟩,gz⟩:=five_cells hq7;have g0:=gz 0;have g1:=gz 1;have g2:=gz 2;have g3:=gz 3;have g4:=gz 4;have HQ7:=hid hq7;have HW7:=hid hw7;have HW6:=hid hW6;clear c6 hw7 hq7 hq5 gz fz p0 p1 p2 p3 p4 hW6
  go_wp2_with fail
  have hp:=set_row5 (a':=.string ⟨#[115,116,97,114]⟩) (b':=.string ⟨#[]⟩) (c':=.int .i64 fr) (d':=.int .i64 e6) (e':=.slice (some ⟨W5.heap.size,0,none⟩) 1 1) HQ7.out;refine bodyPost_ret (v:=.agg #[.string ⟨#[115,116,97,114]⟩,.string ⟨#[]⟩,.int .i64 fr,.int .i64 e6,.slice (some ⟨W5.heap.size,0,none⟩) 1 1]) (results_cell_row rfl _ _ w.heap.size 25 #[.string ⟨#[115,116,97,114]⟩,.string ⟨#[]⟩,.int .i64 fr,.int .i64 e6,.slice (some ⟨W5.heap.size,0,none⟩) 1 1] (0,0) _ (by rfl) hp Tryz.underlying25 rfl (by kernel_rfl)) rfl ?_;rw [← HQ.out,HOO.out];have s1:=HM1.out.size;have s3:=HM3.out.size;have s4:=HW4.out.2.size;have s5:=HB5.out.size;have s6:=(Array.getElem?_eq_some_iff.1 HQ6.out).1;have hs:Mv w4.heap.size d w4 w7:=(Mv.of_below HB5.out).trans (((Mv.of_below (by rw [← HW6.out];exact (Below.refl _ W5).alloc (Nat.le_refl _) _)).trans (HW7.out.2.mono (by rw [← HW6.out];simp))).mono s5);refine reads_end hd (HM1.out.trans (HM7.out.mono s1)) HW7.out.1 (out_part _).1 (out_part _).2 ?_ ⟨Nat.le_refl _,Nat.le_refl _⟩
  exact partV_one (K:=kStar) (T:=[]) HV.out (hs.still (Nat.le_refl _) (fun g hg=>by omega)) ((HW7.out.2.block _ s6 (by omega)).trans HQ6.out) (fun g hg=>by omega) (by omega) (by exact HE6.out)
theorem typed_any (d:Nat) (L:List TokP) (lv:Value) (hL:L.length≤1000000):∀ n,TypedAt d L lv n:=by
 intro n
 induction n with
 | zero=>exact typed_step d L lv hL 0 fun m h=>by omega
 | succ m ih=>exact typed_step d L lv hL (m+1) (fun k hk=>(Nat.succ.inj hk) ▸ ih)
structure Fol (L:List TokP) (i:Nat) (b:Bool) {α:Type} (o:Out α):Prop where
 ge:i≤o.at
 le:o.at≤L.length
 so:o.isBad=false→b=false
theorem Fol.begun {L:List TokP} {i:Nat} {b:Bool} {α:Type} {o:Out α} (hi:i≤L.length) (h:Fw L i o):Fol L i b (start b i o):=by
 cases b
 ·exact ⟨h.ge,h.le,fun _=>rfl⟩
 ·exact ⟨Nat.le_refl _,hi,fun h=>by cases h⟩
theorem Fol.step {L:List TokP} {i:Nat} {b:Bool} {α β:Type} {o:Out α} {u:Out β} (h:Fol L i b o) (hu:Fw L o.at u):Fol L i b (start o.isBad o.at u):=by
 cases hb:o.isBad
 ·exact ⟨Nat.le_trans h.ge hu.ge,hu.le,fun _=>h.so hb⟩
 ·exact ⟨h.ge,h.le,fun h=>by cases h⟩
theorem start_next {α β:Type} (b:Bool) (i:Nat) (m:Out α) (f:α→Nat→Out β):start b i (m.next f)=(start b i m).next f:=by cases b <;> rfl
theorem row_cells {W:World} {q:Nat} {cs:Array Value} {ty:TypeId} (h:W.heap[q]?=some (.cells cs ty (0,0))):CellsAt W q 0 cs.toList:=by
 intro j u hj;rw [Nat.zero_add]
 unfold World.cell?
 rw [h]
 simpa using hj
theorem five_of {x:Pt} {k t:ByteArray} {f e:Int} {sl:Value} (hv:(.agg #[.string k,.string t,.int .i64 f,.int .i64 e,sl]:Value)=.agg (five x sl).toArray):[.string k,.string t,.int .i64 f,.int .i64 e,sl]=five x sl:=by
 have h1:=congrArg (fun v:Value=>match v with|.agg xs=>xs.toList|_=>[]) hv
 simpa using h1
end Go.Proofs.YtmclaaonlhnbmaaGreatDoor.T
namespace Go.Proofs.YtmclaaonlhnbmaaGreatDoor.T
open Go.RowKit
open Go.Lib hiding intOf
open U S L
theorem partV_row {W:World} {R:Nat→Prop} {O:Out Pt} {kv tv:ByteArray} {F E:Int} {q n c:Nat} {cs:Array Value} {ty:TypeId} (hq:W.heap[q]?=some (.cells cs ty (0,0))) (hR:R q)
  (h:∀ p j,O=.ok p j→∃ K T ks,p=.mk K T F E ks∧bstr K=kv∧bstr T=tv∧ks.length=n∧PartsIn W R ks cs.toList) (hn:n≤1000000) (hc:n≤c) :
  PartV W R O (.agg #[.string kv,.string tv,.int .i64 F,.int .i64 E,.slice (some ⟨q,0,none⟩) n c]):=by
 refine ⟨_,_,_,_,_,_,_,rfl,hn,?_⟩;intro p j hpj;obtain ⟨K,T,ks,rfl,rfl,rfl,rfl,h5⟩:=h p j hpj
 exact ⟨rfl,_,_,rfl,hc,.inr ⟨q,0,_,rfl,hR,row_cells hq,h5⟩⟩
theorem text_at {L:List TokP} {nm:Out By} {K:By} {F:Int} (g:Nat→Out Pt):(nm.next fun s j=>(g j).next fun x k=>part L K s F [x] k).at=(start nm.isBad nm.at (g nm.at)).at∧(nm.next fun s j=>(g j).next fun x k=>part L K s F [x] k).isBad=(start nm.isBad nm.at (g nm.at)).isBad:=by
 cases nm with
 | bad j=>exact ⟨rfl,rfl⟩
 | ok s j=>exact out_part (o:=g j) (fun x=>[x])
theorem text_ok {L:List TokP} {nm:Out By} {K:By} {F:Int} (g:Nat→Out Pt) {p:Pt} {j:Nat} (h:(nm.next fun s j=>(g j).next fun x k=>part L K s F [x] k)=.ok p j) :
  ∃ K' T x,p=.mk K' T F (toT L (start nm.isBad nm.at (g nm.at)).at) [x]∧bstr K'=bstr K∧bstr T=nameV nm∧∃ jx,start nm.isBad nm.at (g nm.at)=.ok x jx:=by
 cases nm with
 | bad j=>cases h
 | ok s j' =>
  have h':((g j').next fun x k=>part L K s F [x] k)=.ok p j:=h
  show ∃ K' T x,p=.mk K' T F (toT L (g j').at) [x]∧bstr K'=bstr K∧bstr T=bstr s∧∃ jx,g j'=.ok x jx
  cases hg:g j' with
  | bad k=>rw [hg] at h';cases h'
  | ok x k =>
   rw [hg] at h';simp only [Out.next,part,Out.ok.injEq] at h';obtain ⟨rfl,rfl⟩:=h'
   exact ⟨K,s,x,rfl,rfl,rfl,k,rfl⟩
set_option maxHeartbeats 16000000 in
set_option maxRecDepth 20000 in
theorem param_any (d:Nat) (L:List TokP) (lv:Value) (hL:L.length≤1000000) (n:Nat) (kind:By) (i:Nat) (b:Bool) (w:World) (hR:Rd d lv i b w) (hT:Tk d L lv w) (hi:i≤L.length) (hn:b=false→2*(L.length - i)+1≤n) :
  Calls Tryz.prog 49 #[.pointer (some ⟨d,0,none⟩),.string (bstr kind)] w (Reads d lv (start b i (param L n kind i)) w):=by
 obtain ⟨nm,hnm⟩:∃ u,start b i (nameT L i)=u:=⟨_,rfl⟩;obtain ⟨sv,hsv⟩:∃ u,nameV nm=u:=⟨_,rfl⟩;obtain ⟨o,ho⟩:∃ u,start nm.isBad nm.at (typed L n nm.at)=u:=⟨_,rfl⟩;obtain ⟨fr,hfr⟩:∃ u,fromT L i=u:=⟨_,rfl⟩;obtain ⟨O,hO⟩:∃ u,start b i (param L n kind i)=u:=⟨_,rfl⟩
 have hOO:O=nm.next fun s j=>(typed L n j).next fun x k=>part L kind s fr [x] k:=by
  rw [← hO,← hfr,← hnm,← start_next]
  rfl
 obtain ⟨kv,hkv⟩:∃ kv,bstr kind=kv:=⟨_,rfl⟩;rw [hkv];have HAT:Hid (O.at=o.at∧O.isBad=o.isBad):=hid (by rw [hOO,← ho];exact text_at _);have HPL:Hid (∀ p j,O=.ok p j→∃ K T x,p=.mk K T fr (toT L o.at) [x]∧bstr K=kv∧bstr T=sv∧∃ jx,o=.ok x jx):=hid (by intro p j hpj;rw [hOO] at hpj;rw [← hkv];rw [← ho,← hsv];exact text_ok _ hpj);have HFnm:Hid (Fol L i b nm):=hid (by rw [← hnm];exact .begun hi (nameT_fwd hi).toFw);have HFo:Hid (Fol L i b o):=hid (by rw [← ho];exact HFnm.out.step (typed_fwd n _ HFnm.out.le).toFw);have Hnm:=hid hnm;have Hsv:=hid hsv;have Ho:=hid ho;have HFR:=hid hfr;rw [hO];clear  hnm hsv ho hfr hO hOO hkv;have hd:=hR.lt;obtain ⟨W1,hW1⟩:∃ W1,w.alloc zeroP=W1:=⟨_,rfl⟩
 have hb1:Below w.heap.size w W1:=by rw [← hW1];exact (Below.refl _ w).alloc (Nat.le_refl _) _
 have HM1:=hid (Mv.of_below (d:=d) hb1)
 have hq1:W1.heap[w.heap.size]?=some (.cells #[.string ⟨#[]⟩,.string ⟨#[]⟩,.int .i64 0,.int .i64 0,.slice none 0 0] 25 (0,0)):=by rw [← hW1];exact heap_alloc_new w _
 have hR1:Rd d lv i b W1:=hR.below hb1;have hT1:=hT.mv (Mv.of_below hb1) (Nat.le_refl _);have c1:=from_any d L lv i b W1 hR1 hT1;rw [HFR.out] at c1;have HW1:=hid hW1;have HQ1:=hid hq1;have HR1:=hid hR1;have HT1:=hid hT1;have HN:=hid hn;obtain ⟨Q,hQ⟩:∃ Q,Reads d lv O w=Q:=⟨_,rfl⟩;have HQ:=hid hQ;rw [hQ];clear hW1 hq1 hb1 hR1 hT1 hn hQ hR hT
 go_enter Tryz.func49,Tryz.ntmps49
 go_wp2_with fail
 rw [HW1.out];refine c1.mono ?_;intro x w2 h2;obtain ⟨rfl,hw2⟩:=h2.went HR1.out;have HM2:=hid hw2.2;have HR2:=hid hw2.1;clear c1 h2 hw2;have c3:=name_any10 d L lv i b w2 HR2.out (HT1.out.mv HM2.out (Nat.le_refl _)) (by have:=hi;omega);rw [Hnm.out,Hsv.out] at c3
 go_wp2_with fail
 refine c3.mono ?_;rintro x w3 ⟨rfl,hw3⟩;have HM3:=hid (HM2.out.trans (hw3.2.mono HM2.out.size));have HR3:=hid hw3.1
 skip
 clear c3 hw3;have c4:=typed_any d L lv hL n nm.at nm.isBad w3 HR3.out (HT1.out.mv HM3.out (Nat.le_refl _)) HFnm.out.le (fun h=>by have:=HN.out (HFnm.out.so h);have:=HFnm.out.ge;omega);rw [Ho.out] at c4
 go_wp2_with fail
 refine c4.mono ?_;rintro x w4 ⟨v,rfl,⟨kx0,tx0,fx0,ex0,ax0,nx0,cx0,rfl,-,hvx0⟩,hw4⟩;have HVx0:=hid hvx0;have HWx0:=hid hw4;clear c4 hvx0 hw4
 go_upto_region 4 with fail
 obtain ⟨qx0,hqx0⟩:∃ q,w4.heap.size=q:=⟨_,rfl⟩;obtain ⟨V4,hV4⟩:∃ V,w4.alloc (.cells #[.string kx0,.string tx0,.int .i64 fx0,.int .i64 ex0,.slice ax0 nx0 cx0] 25)=V:=⟨_,rfl⟩
 have hb4:Below w4.heap.size w4 V4:=by rw [← hV4];exact (Below.refl _ w4).alloc (Nat.le_refl _) _
 have HBx0:Hid (V4.heap[qx0]?=some (.cells #[.string kx0,.string tx0,.int .i64 fx0,.int .i64 ex0,.slice ax0 nx0 cx0] 25 (0,0))):=hid (by rw [← hV4,← hqx0];exact heap_alloc_new w4 _);have HSx0:Hid (Mv w4.heap.size d w4 V4):=hid (Mv.of_below hb4);have HLx0:Hid (W1.heap.size≤w3.heap.size∧w3.heap.size≤w4.heap.size∧qx0=w4.heap.size):=hid ⟨HM3.out.size,HWx0.out.2.size,hqx0.symm⟩;rw [hV4,hqx0];have HM4:=hid ((HM3.out.trans (HWx0.out.2.mono HM3.out.size)).trans ((Mv.of_below hb4).mono (Nat.le_trans HM3.out.size HWx0.out.2.size)));have HR4:=hid (HWx0.out.1.below hb4)
 skip
 clear hV4 hb4 hqx0;have HDx0_4:Hid (Mv V4.heap.size d V4 V4):=hid (Mv.refl _ _ _);have hzx0:=(HDx0_4.out.block qx0 (Array.getElem?_eq_some_iff.1 HBx0.out).1 (by have:=HLx0.out;have:=HM1.out.size;omega)).trans HBx0.out;obtain ⟨⟨l0x0,l1x0,l2x0,l3x0,l4x0⟩,-⟩:=five_cells hzx0;have HZx0:=hid hzx0;clear hzx0;obtain ⟨z,hz⟩:∃ z,V4.heap.size=z:=⟨_,rfl⟩;obtain ⟨Z,hZ⟩:∃ Z,V4.alloc (.cells #[.string kx0,.string tx0,.int .i64 fx0,.int .i64 ex0,.slice ax0 nx0 cx0] 25)=Z:=⟨_,rfl⟩
 have hzb:Below V4.heap.size V4 Z:=by rw [← hZ];exact (Below.refl _ V4).alloc (Nat.le_refl _) _
 have HZQ:Hid (Z.heap[z]?=some (.cells #[.string kx0,.string tx0,.int .i64 fx0,.int .i64 ex0,.slice ax0 nx0 cx0] 25 (0,0))):=hid (by rw [← hZ,← hz];exact heap_alloc_new V4 _);have HMZ:=hid (HM4.out.trans ((Mv.of_below hzb).mono HM4.out.size));have HRZ:=hid (HR4.out.below hzb);have HZB:=hid (Mv.of_below (d:=d) hzb);have HZ:=hid hz;have cz:=part_any d L lv o.at o.isBad kv sv fr (some ⟨z,0,none⟩) 1 1 Z HRZ.out (HT1.out.mv HMZ.out (Nat.le_refl _)) HFo.out.le hL;obtain ⟨ez,hez⟩:∃ e,toT L o.at=e:=⟨_,rfl⟩;rw [hez] at cz;have HEZ:=hid hez;rw [← hz] at cz;clear hzb hez hz
 go_wp2_with fail
 try rw [hZ]
 refine cz.mono ?_;rintro x w7 ⟨rfl,hw7⟩;have HM7:=hid (HMZ.out.trans (hw7.2.mono HMZ.out.size));have hqw:=(Array.getElem?_eq_some_iff.1 HQ1.out).1;have hq7:w7.heap[w.heap.size]?=_:=(HM7.out.block w.heap.size hqw (by omega)).trans HQ1.out;obtain ⟨⟨r0,r1,r2,r3,r4⟩,gz⟩:=five_cells hq7;have g0:=gz 0;have g1:=gz 1;have g2:=gz 2;have g3:=gz 3;have g4:=gz 4;have HQ7:=hid hq7;have HW7:=hid hw7;have HZE:=hid hZ;clear cz hw7 hq7 gz hZ l0x0 l1x0 l2x0 l3x0 l4x0
 go_wp2_with fail
 have hp:=set_row5 (a':=.string kv) (b':=.string sv) (c':=.int .i64 fr) (d':=.int .i64 ez) (e':=.slice (some ⟨V4.heap.size,0,none⟩) 1 1) HQ7.out;refine bodyPost_ret (v:=.agg #[.string kv,.string sv,.int .i64 fr,.int .i64 ez,.slice (some ⟨V4.heap.size,0,none⟩) 1 1]) (results_cell_row rfl _ _ w.heap.size 25 #[.string kv,.string sv,.int .i64 fr,.int .i64 ez,.slice (some ⟨V4.heap.size,0,none⟩) 1 1] (0,0) _ (by rfl) hp Tryz.underlying25 rfl (by kernel_rfl)) rfl ?_;rw [← HQ.out];refine reads_end hd (HM1.out.trans (HM7.out.mono HM1.out.size)) HW7.out.1 HAT.out.1 HAT.out.2 ?_ ⟨Nat.le_refl _,Nat.le_refl _⟩;have hsz:=HM1.out.size;have hz7:w7.heap[z]?=_:=(HW7.out.2.block z (Array.getElem?_eq_some_iff.1 HZQ.out).1 (by have:=HM4.out.size;have:=HZ.out;omega)).trans HZQ.out;rw [HZ.out];refine partV_row hz7 (by have:=HM4.out.size;have:=HZ.out;omega) (fun p j hpj=>?_) (by omega) (Nat.le_refl _);obtain ⟨K,T,yx0,h0,hK,hT,jx0,hx0⟩:=HPL.out p j hpj;refine ⟨K,T,[yx0],by rw [← HEZ.out];exact h0,hK,hT,rfl,?_⟩;obtain ⟨ux0,kx0'⟩:=HVx0.out yx0 jx0 hx0;have sx0:Mv w4.heap.size d w4 w7:=HSx0.out.trans (((HDx0_4.out.trans (HZB.out.mono HDx0_4.out.size)).trans (HW7.out.2.mono (Nat.le_trans HDx0_4.out.size HZB.out.size))).mono HSx0.out.size);have ix0:=kx0'.later (R':=fun g=>w.heap.size<g) (sx0.still (Nat.le_refl _) (fun g hg=>by have:=HLx0.out;omega)) (fun g hg=>by have:=HLx0.out;omega)
 show PartsIn w7 _ _ ([.string kx0,.string tx0,.int .i64 fx0,.int .i64 ex0,.slice ax0 nx0 cx0]++[])
 rw [five_of ux0]
 exact ⟨_,_,rfl,ix0,rfl⟩
set_option maxHeartbeats 16000000 in
set_option maxRecDepth 20000 in
theorem variable_any (d:Nat) (L:List TokP) (lv:Value) (hL:L.length≤1000000) (n i:Nat) (b:Bool) (w:World) (hR:Rd d lv i b w) (hT:Tk d L lv w) (hi:i≤L.length) (hn:b=false→2*(L.length - i)+1≤n) :
  Calls Tryz.prog 23 #[.pointer (some ⟨d,0,none⟩)] w (Reads d lv (start b i (variable' L n i)) w):=by
 obtain ⟨om,hom⟩:∃ u,start b i (mustT L kVar i)=u:=⟨_,rfl⟩;obtain ⟨nm,hnm⟩:∃ u,start om.isBad om.at (nameT L om.at)=u:=⟨_,rfl⟩;obtain ⟨sv,hsv⟩:∃ u,nameV nm=u:=⟨_,rfl⟩;obtain ⟨o,ho⟩:∃ u,start nm.isBad nm.at (typed L n nm.at)=u:=⟨_,rfl⟩;obtain ⟨fr,hfr⟩:∃ u,fromT L i=u:=⟨_,rfl⟩;obtain ⟨O,hO⟩:∃ u,start b i (variable' L n i)=u:=⟨_,rfl⟩
 have hOO:O=nm.next fun s j=>(typed L n j).next fun x k=>part L kVar s fr [x] k:=by
  rw [← hO,← hfr,← hnm,← next_const om (nameT L),next_next,← hom,← start_next]
  rfl
 have HAT:Hid (O.at=o.at∧O.isBad=o.isBad):=hid (by rw [hOO,← ho];exact text_at _);have HPL:Hid (∀ p j,O=.ok p j→∃ K T x,p=.mk K T fr (toT L o.at) [x]∧bstr K=⟨#[118,97,114]⟩∧bstr T=sv∧∃ jx,o=.ok x jx):=hid (by intro p j hpj;rw [hOO] at hpj;rw [← ho,← hsv];exact text_ok _ hpj);have HFom:Hid (Fol L i b om):=hid (by rw [← hom];exact .begun hi (mustT_fwd _ hi).toFw);have HFnm:Hid (Fol L i b nm):=hid (by rw [← hnm];exact HFom.out.step (nameT_fwd HFom.out.le).toFw);have HFo:Hid (Fol L i b o):=hid (by rw [← ho];exact HFnm.out.step (typed_fwd n _ HFnm.out.le).toFw);have Hom:=hid hom;have Hnm:=hid hnm;have Hsv:=hid hsv;have Ho:=hid ho;have HFR:=hid hfr;rw [hO];clear hom hnm hsv ho hfr hO hOO;have hd:=hR.lt;obtain ⟨W1,hW1⟩:∃ W1,w.alloc zeroP=W1:=⟨_,rfl⟩
 have hb1:Below w.heap.size w W1:=by rw [← hW1];exact (Below.refl _ w).alloc (Nat.le_refl _) _
 have HM1:=hid (Mv.of_below (d:=d) hb1)
 have hq1:W1.heap[w.heap.size]?=some (.cells #[.string ⟨#[]⟩,.string ⟨#[]⟩,.int .i64 0,.int .i64 0,.slice none 0 0] 25 (0,0)):=by rw [← hW1];exact heap_alloc_new w _
 have hR1:Rd d lv i b W1:=hR.below hb1;have hT1:=hT.mv (Mv.of_below hb1) (Nat.le_refl _);have c1:=from_any d L lv i b W1 hR1 hT1;rw [HFR.out] at c1;have HW1:=hid hW1;have HQ1:=hid hq1;have HR1:=hid hR1;have HT1:=hid hT1;have HN:=hid hn;obtain ⟨Q,hQ⟩:∃ Q,Reads d lv O w=Q:=⟨_,rfl⟩;have HQ:=hid hQ;rw [hQ];clear hW1 hq1 hb1 hR1 hT1 hn hQ hR hT
 go_enter Tryz.func23,Tryz.ntmps23
 go_wp2_with fail
 rw [HW1.out];refine c1.mono ?_;intro x w2 h2;obtain ⟨rfl,hw2⟩:=h2.went HR1.out;have HM2:=hid hw2.2;have HR2:=hid hw2.1;clear c1 h2 hw2;have c3:=must_any d L lv i b kVar w2 HR2.out (HT1.out.mv HM2.out (Nat.le_refl _)) (by have:=hi;omega);rw [Hom.out,show bstr kVar=⟨#[118,97,114]⟩ from rfl] at c3
 go_wp2_with fail
 refine c3.mono ?_;rintro x w3 ⟨rfl,hw3⟩;have HM3:=hid (HM2.out.trans (hw3.2.mono HM2.out.size));have HR3:=hid hw3.1
 skip
 clear c3 hw3;have c4:=name_any10 d L lv om.at om.isBad w3 HR3.out (HT1.out.mv HM3.out (Nat.le_refl _)) (by have:=HFom.out.le;omega);rw [Hnm.out,Hsv.out] at c4
 go_wp2_with fail
 refine c4.mono ?_;rintro x w4 ⟨rfl,hw4⟩;have HM4:=hid (HM3.out.trans (hw4.2.mono HM3.out.size));have HR4:=hid hw4.1
 skip
 clear c4 hw4;have c5:=typed_any d L lv hL n nm.at nm.isBad w4 HR4.out (HT1.out.mv HM4.out (Nat.le_refl _)) HFnm.out.le (fun h=>by have:=HN.out (HFnm.out.so h);have:=HFnm.out.ge;omega);rw [Ho.out] at c5
 go_wp2_with fail
 refine c5.mono ?_;rintro x w5 ⟨v,rfl,⟨kx0,tx0,fx0,ex0,ax0,nx0,cx0,rfl,-,hvx0⟩,hw5⟩;have HVx0:=hid hvx0;have HWx0:=hid hw5;clear c5 hvx0 hw5
 go_upto_region 5 with fail
 obtain ⟨qx0,hqx0⟩:∃ q,w5.heap.size=q:=⟨_,rfl⟩;obtain ⟨V5,hV5⟩:∃ V,w5.alloc (.cells #[.string kx0,.string tx0,.int .i64 fx0,.int .i64 ex0,.slice ax0 nx0 cx0] 25)=V:=⟨_,rfl⟩
 have hb5:Below w5.heap.size w5 V5:=by rw [← hV5];exact (Below.refl _ w5).alloc (Nat.le_refl _) _
 have HBx0:Hid (V5.heap[qx0]?=some (.cells #[.string kx0,.string tx0,.int .i64 fx0,.int .i64 ex0,.slice ax0 nx0 cx0] 25 (0,0))):=hid (by rw [← hV5,← hqx0];exact heap_alloc_new w5 _);have HSx0:Hid (Mv w5.heap.size d w5 V5):=hid (Mv.of_below hb5);have HLx0:Hid (W1.heap.size≤w4.heap.size∧w4.heap.size≤w5.heap.size∧qx0=w5.heap.size):=hid ⟨HM4.out.size,HWx0.out.2.size,hqx0.symm⟩;rw [hV5,hqx0];have HM5:=hid ((HM4.out.trans (HWx0.out.2.mono HM4.out.size)).trans ((Mv.of_below hb5).mono (Nat.le_trans HM4.out.size HWx0.out.2.size)));have HR5:=hid (HWx0.out.1.below hb5)
 skip
 clear hV5 hb5 hqx0;have HDx0_5:Hid (Mv V5.heap.size d V5 V5):=hid (Mv.refl _ _ _);have hzx0:=(HDx0_5.out.block qx0 (Array.getElem?_eq_some_iff.1 HBx0.out).1 (by have:=HLx0.out;have:=HM1.out.size;omega)).trans HBx0.out;obtain ⟨⟨l0x0,l1x0,l2x0,l3x0,l4x0⟩,-⟩:=five_cells hzx0;have HZx0:=hid hzx0;clear hzx0;obtain ⟨z,hz⟩:∃ z,V5.heap.size=z:=⟨_,rfl⟩;obtain ⟨Z,hZ⟩:∃ Z,V5.alloc (.cells #[.string kx0,.string tx0,.int .i64 fx0,.int .i64 ex0,.slice ax0 nx0 cx0] 25)=Z:=⟨_,rfl⟩
 have hzb:Below V5.heap.size V5 Z:=by rw [← hZ];exact (Below.refl _ V5).alloc (Nat.le_refl _) _
 have HZQ:Hid (Z.heap[z]?=some (.cells #[.string kx0,.string tx0,.int .i64 fx0,.int .i64 ex0,.slice ax0 nx0 cx0] 25 (0,0))):=hid (by rw [← hZ,← hz];exact heap_alloc_new V5 _);have HMZ:=hid (HM5.out.trans ((Mv.of_below hzb).mono HM5.out.size));have HRZ:=hid (HR5.out.below hzb);have HZB:=hid (Mv.of_below (d:=d) hzb);have HZ:=hid hz;have cz:=part_any d L lv o.at o.isBad ⟨#[118,97,114]⟩ sv fr (some ⟨z,0,none⟩) 1 1 Z HRZ.out (HT1.out.mv HMZ.out (Nat.le_refl _)) HFo.out.le hL;obtain ⟨ez,hez⟩:∃ e,toT L o.at=e:=⟨_,rfl⟩;rw [hez] at cz;have HEZ:=hid hez;rw [← hz] at cz;clear hzb hez hz
 go_wp2_with fail
 try rw [hZ]
 refine cz.mono ?_;rintro x w7 ⟨rfl,hw7⟩;have HM7:=hid (HMZ.out.trans (hw7.2.mono HMZ.out.size));have hqw:=(Array.getElem?_eq_some_iff.1 HQ1.out).1;have hq7:w7.heap[w.heap.size]?=_:=(HM7.out.block w.heap.size hqw (by omega)).trans HQ1.out;obtain ⟨⟨r0,r1,r2,r3,r4⟩,gz⟩:=five_cells hq7;have g0:=gz 0;have g1:=gz 1;have g2:=gz 2;have g3:=gz 3;have g4:=gz 4;have HQ7:=hid hq7;have HW7:=hid hw7;have HZE:=hid hZ;clear cz hw7 hq7 gz hZ l0x0 l1x0 l2x0 l3x0 l4x0
 go_wp2_with fail
 have hp:=set_row5 (a':=.string ⟨#[118,97,114]⟩) (b':=.string sv) (c':=.int .i64 fr) (d':=.int .i64 ez) (e':=.slice (some ⟨V5.heap.size,0,none⟩) 1 1) HQ7.out;refine bodyPost_ret (v:=.agg #[.string ⟨#[118,97,114]⟩,.string sv,.int .i64 fr,.int .i64 ez,.slice (some ⟨V5.heap.size,0,none⟩) 1 1]) (results_cell_row rfl _ _ w.heap.size 25 #[.string ⟨#[118,97,114]⟩,.string sv,.int .i64 fr,.int .i64 ez,.slice (some ⟨V5.heap.size,0,none⟩) 1 1] (0,0) _ (by rfl) hp Tryz.underlying25 rfl (by kernel_rfl)) rfl ?_;rw [← HQ.out];refine reads_end hd (HM1.out.trans (HM7.out.mono HM1.out.size)) HW7.out.1 HAT.out.1 HAT.out.2 ?_ ⟨Nat.le_refl _,Nat.le_refl _⟩;have hsz:=HM1.out.size;have hz7:w7.heap[z]?=_:=(HW7.out.2.block z (Array.getElem?_eq_some_iff.1 HZQ.out).1 (by have:=HM5.out.size;have:=HZ.out;omega)).trans HZQ.out;rw [HZ.out];refine partV_row hz7 (by have:=HM5.out.size;have:=HZ.out;omega) (fun p j hpj=>?_) (by omega) (Nat.le_refl _);obtain ⟨K,T,yx0,h0,hK,hT,jx0,hx0⟩:=HPL.out p j hpj;refine ⟨K,T,[yx0],by rw [← HEZ.out];exact h0,hK,hT,rfl,?_⟩;obtain ⟨ux0,kx0'⟩:=HVx0.out yx0 jx0 hx0;have sx0:Mv w5.heap.size d w5 w7:=HSx0.out.trans (((HDx0_5.out.trans (HZB.out.mono HDx0_5.out.size)).trans (HW7.out.2.mono (Nat.le_trans HDx0_5.out.size HZB.out.size))).mono HSx0.out.size);have ix0:=kx0'.later (R':=fun g=>w.heap.size<g) (sx0.still (Nat.le_refl _) (fun g hg=>by have:=HLx0.out;omega)) (fun g hg=>by have:=HLx0.out;omega)
 show PartsIn w7 _ _ ([.string kx0,.string tx0,.int .i64 fx0,.int .i64 ex0,.slice ax0 nx0 cx0]++[])
 rw [five_of ux0]
 exact ⟨_,_,rfl,ix0,rfl⟩
end Go.Proofs.YtmclaaonlhnbmaaGreatDoor.T
namespace Go.Proofs.YtmclaaonlhnbmaaGreatDoor.T
open Go.RowKit
open Go.Lib hiding intOf
open U S L
theorem bstr_list (x:By):(bstr x).toList=x:=by rw [bstr,ByteArray.toList_eq]
set_option maxHeartbeats 16000000 in
set_option maxRecDepth 20000 in
theorem strength_any (t:TokP) (w:World):Calls Tryz.prog 157 #[.agg #[.int .i64 t.w,.string (bstr t.t),.int .i64 t.f,.int .i64 t.e]] w fun e w'=>e=.returned (.int .i64 (strong t))∧Below w.heap.size w w':=by
 obtain ⟨tw,tt,tf,te⟩:=t;obtain ⟨v,hv⟩:∃ v,strong ⟨tw,tt,tf,te⟩=v:=⟨_,rfl⟩;rw [hv];have HV:=hid hv;dsimp only;clear hv
 go_enter Tryz.func157,Tryz.ntmps157
 go_wp2_with fail
 all_goals
  go_ret
  refine ⟨?_,(Below.refl _ w).alloc (Nat.le_refl _) _⟩;rw [← HV.out];clear HV
  simp_all [strong,bstr_list]
end Go.Proofs.YtmclaaonlhnbmaaGreatDoor.T
namespace Go.Proofs.YtmclaaonlhnbmaaGreatDoor.T
open Go.Lib hiding intOf
open U S
section
variable (L:List TokP)
theorem expr_succ (n:Nat) (than:Int) (i:Nat):expr L (n+1) than i=(prefixT L n i).next fun a j=>exprs L n than (fromT L i) a j:=by rw [expr]
theorem exprs_succ (n:Nat) (than f:Int) (a:Pt) (i:Nat):exprs L (n+1) than f a i =
  if i<L.length∧than<strongT L i then (expr L n (strongT L i) (i+1)).next fun b j=>exprs L n than f (.mk kBinary (textT L i) f (toT L j) [a,b]) j else .ok a i:=by rw [exprs]
theorem prefixT_succ (n i:Nat):prefixT L (n+1) i =
  if isT L [38] i then (prefixT L n (i+1)).next fun e j=>part L kUnary [38] (fromT L i) [e] j
  else if isT L [42] i then (prefixT L n (i+1)).next fun e j=>part L kUnary [42] (fromT L i) [e] j
  else if isT L [45] i then (prefixT L n (i+1)).next fun e j=>part L kUnary [45] (fromT L i) [e] j
  else if isT L [33] i then (prefixT L n (i+1)).next fun e j=>part L kUnary [33] (fromT L i) [e] j
  else (operand L n i).next fun a j=>tails L n (fromT L i) a j:=by rw [prefixT]
theorem tails_succ (n:Nat) (f:Int) (a:Pt) (i:Nat):tails L (n+1) f a i =
  if isT L [46] i then (nameT L (i+1)).next fun s j=>tails L n f (.mk kField s f (toT L j) [a]) j
  else if isT L [91] i then (expr L n 0 (i+1)).next fun e j=>(mustT L [93] j).next fun _ k=>tails L n f (.mk kIndex [] f (toT L k) [a,e]) k
  else .ok a i:=by rw [tails]
theorem operand_succ (n i:Nat):operand L (n+1) i =
  if comesT L 1 i then part L kNum (textT L i) (fromT L i) [] (i+1)
  else if comesT L 2 i then part L kStr (textT L i) (fromT L i) [] (i+1)
  else if isT L [40] i then (expr L n 0 (i+1)).next fun e j=>(mustT L [41] j).next fun _ k=>.ok e k
  else (nameT L i).next fun s j =>
   if isT L [40] j=false then part L kId s (fromT L i) [] j
   else if s=kNew then (typed L n (j+1)).next fun x k=>(mustT L [41] k).next fun _ m=>part L kNew [] (fromT L i) [x] m
   else if s=kMake then (typed L n (j+1)).next fun x k=>(mustT L [44] k).next fun _ m=>(expr L n 0 m).next fun e o=>(mustT L [41] o).next fun _ p=>part L kMake [] (fromT L i) [x,e] p
   else if isT L [41] (j+1) then part L kCall s (fromT L i) [] (j+2)
   else (args L n (j+1) []).next fun l k=>part L kCall s (fromT L i) l k:=by rw [operand]
theorem args_succ (n i:Nat) (acc:List Pt):args L (n+1) i acc =
  (expr L n 0 i).next fun a j=>if isT L [41] j then .ok (acc++[a]) (j+1) else (mustT L [44] j).next fun _ k=>args L n k (acc++[a]):=by rw [args]
theorem expr_zero (than:Int) (i:Nat):expr L 0 than i=.bad i:=by rw [expr]
theorem exprs_zero (than f:Int) (a:Pt) (i:Nat):exprs L 0 than f a i=.bad i:=by rw [exprs]
theorem prefixT_zero (i:Nat):prefixT L 0 i=.bad i:=by rw [prefixT]
theorem tails_zero (f:Int) (a:Pt) (i:Nat):tails L 0 f a i=.bad i:=by rw [tails]
theorem operand_zero (i:Nat):operand L 0 i=.bad i:=by rw [operand]
theorem args_zero (i:Nat) (acc:List Pt):args L 0 i acc=.bad i:=by rw [args]
end
section
variable {L:List TokP}
theorem Fw.bad {α:Type} {i:Nat} (hi:i≤L.length):Fw L i (.bad i:Out α):=⟨Nat.le_refl _,hi⟩
structure AllFwd (L:List TokP) (n:Nat):Prop where
 expr:∀ i,i≤L.length→∀ than,Fwd L i (expr L n than i)
 exprs:∀ i,i≤L.length→∀ than f a,Fw L i (exprs L n than f a i)
 prefixT:∀ i,i≤L.length→Fwd L i (prefixT L n i)
 tails:∀ i,i≤L.length→∀ f a,Fw L i (tails L n f a i)
 operand:∀ i,i≤L.length→Fwd L i (operand L n i)
 args:∀ i,i≤L.length→∀ acc,Fwd L i (args L n i acc)
theorem all_fwd:∀ n,AllFwd L n
 | 0=>⟨fun i hi _=>by rw [expr_zero];exact .bad hi,fun i hi _ _ _=>by rw [exprs_zero];exact .bad hi,fun i hi=>by rw [prefixT_zero];exact .bad hi,fun i hi _ _=>by rw [tails_zero];exact .bad hi,fun i hi=>by rw [operand_zero];exact .bad hi,fun i hi _=>by rw [args_zero];exact .bad hi⟩
 | n+1=>by
  have ih:=all_fwd n
  refine ⟨?_,?_,?_,?_,?_,?_⟩
  ·intro i hi than
   rw [expr_succ]
   exact (ih.prefixT i hi).next fun a j _ _ hj=>ih.exprs j hj _ _ _
  ·intro i hi than f a
   rw [exprs_succ]
   by_cases h:i<L.length∧than<strongT L i
   ·rw [if_pos h]
    exact ((ih.expr (i+1) h.1 _).next fun b j _ _ hj=>ih.exprs j hj _ _ _).toFw.mono (Nat.le_succ _)
   ·rw [if_neg h];exact .ok (Nat.le_refl _) hi _
  ·intro i hi
   rw [prefixT_succ]
   have pr:∀ x:By,isT L x i=true→Fwd L i ((prefixT L n (i+1)).next fun e j=>part L kUnary x (fromT L i) [e] j):=fun x h =>
    ((ih.prefixT (i+1) (isT_lt h)).next fun a j _ _ hj=>part_fw _ _ _ _ hj).mono (Nat.le_succ _)
   by_cases h:isT L [38] i=true
   ·rw [if_pos h];exact pr _ h
   rw [if_neg h]
   by_cases h:isT L [42] i=true
   ·rw [if_pos h];exact pr _ h
   rw [if_neg h]
   by_cases h:isT L [45] i=true
   ·rw [if_pos h];exact pr _ h
   rw [if_neg h]
   by_cases h:isT L [33] i=true
   ·rw [if_pos h];exact pr _ h
   rw [if_neg h]
   exact (ih.operand i hi).next fun a j _ _ hj=>ih.tails j hj _ _
  ·intro i hi f a
   rw [tails_succ]
   by_cases h:isT L [46] i=true
   ·rw [if_pos h]
    exact ((nameT_fwd (isT_lt h)).next fun s j _ _ hj=>ih.tails j hj _ _).toFw.mono (Nat.le_succ _)
   rw [if_neg h]
   by_cases h:isT L [91] i=true
   ·rw [if_pos h]
    exact ((ih.expr (i+1) (isT_lt h) _).next fun s j _ _ hj=>((mustT_fwd _ hj).next fun _ k _ _ hk=>ih.tails k hk _ _).toFw).toFw.mono (Nat.le_succ _)
   ·rw [if_neg h];exact .ok (Nat.le_refl _) hi _
  ·intro i hi
   rw [operand_succ]
   by_cases h:comesT L 1 i=true
   ·rw [if_pos h];exact (part_fw _ _ _ _ (comesT_lt h)).strict (Nat.lt_succ_self _)
   rw [if_neg h]
   by_cases h:comesT L 2 i=true
   ·rw [if_pos h];exact (part_fw _ _ _ _ (comesT_lt h)).strict (Nat.lt_succ_self _)
   rw [if_neg h]
   by_cases h:isT L [40] i=true
   ·rw [if_pos h]
    exact ((ih.expr (i+1) (isT_lt h) _).next fun e j _ _ hj=>((mustT_fwd _ hj).next fun _ k _ _ hk=>.ok (Nat.le_refl _) hk _).toFw).mono (Nat.le_succ _)
   rw [if_neg h]
   refine (nameT_fwd hi).next fun s j _ _ hj=>?_
   by_cases h:isT L [40] j=false
   ·rw [if_pos h];exact part_fw _ _ _ _ hj
   rw [if_neg h];have hj1:j+1≤L.length:=isT_lt (by simpa using h)
   by_cases h:s=kNew
   ·rw [if_pos h]
    exact ((typed_fwd n (j+1) hj1).next fun x k _ _ hk=>((mustT_fwd _ hk).next fun _ m _ _ hm=>part_fw _ _ _ _ hm).toFw).toFw.mono (Nat.le_succ _)
   rw [if_neg h]
   by_cases h:s=kMake
   ·rw [if_pos h]
    exact ((typed_fwd n (j+1) hj1).next fun x k _ _ hk=>((mustT_fwd _ hk).next fun _ m _ _ hm=>((ih.expr m hm _).next fun e o _ _ ho=>((mustT_fwd _ ho).next fun _ p _ _ hp=>part_fw _ _ _ _ hp).toFw).toFw).toFw).toFw.mono (Nat.le_succ _)
   rw [if_neg h]
   by_cases h:isT L [41] (j+1)=true
   ·rw [if_pos h];exact (part_fw _ _ _ _ (show j+2≤L.length from isT_lt h)).mono (by omega)
   rw [if_neg h]
   exact ((ih.args (j+1) hj1 _).next fun l k _ _ hk=>part_fw _ _ _ _ hk).toFw.mono (Nat.le_succ _)
  ·intro i hi acc
   rw [args_succ]
   refine (ih.expr i hi _).next fun a j _ _ hj=>?_
   by_cases h:isT L [41] j=true
   ·rw [if_pos h];exact .ok (Nat.le_succ _) (isT_lt h) _
   ·rw [if_neg h]
    exact ((mustT_fwd _ hj).next fun _ k _ _ hk=>(ih.args k hk _).toFw).toFw
end
end Go.Proofs.YtmclaaonlhnbmaaGreatDoor.T
namespace Go.Proofs.YtmclaaonlhnbmaaGreatDoor.T
open Go.RowKit
open Go.Lib hiding intOf
open U S L
mutual
theorem KidsIn.live {W:World} {R:Nat→Prop}:∀ (p:Pt) (lv:Value),KidsIn W R p lv→KidsIn W (fun g=>R g∧g<W.heap.size) p lv
 | .mk k t f e ks,lv,h=>by
  obtain ⟨a,cap,h1,h0,h2⟩:=h;refine ⟨a,cap,h1,h0,?_⟩
  rcases h2 with h2|⟨g,off,xs,h3,h4,h5,h6⟩
  ·exact .inl h2
  ·cases ks with
   | nil=>exact .inl rfl
   | cons p r =>
    refine .inr ⟨g,off,xs,h3,⟨h4,?_⟩,h5,PartsIn.live (p :: r) xs h6⟩;have hl:=PartsIn.length h6
    have h7:0<xs.length:=by rw [hl,List.length_cons];omega
    exact World.block_lt_of_cell? W _ (h5 0 _ (List.getElem?_eq_getElem h7))
theorem PartsIn.live {W:World} {R:Nat→Prop}:∀ (l:List Pt) (xs:List Value),PartsIn W R l xs→PartsIn W (fun g=>R g∧g<W.heap.size) l xs
 | [],_,h=>h
 | p :: r,xs,h=>by
  obtain ⟨lv,rest,h1,h2,h3⟩:=h
  exact ⟨lv,rest,h1,KidsIn.live p lv h2,PartsIn.live r rest h3⟩
end
end Go.Proofs.YtmclaaonlhnbmaaGreatDoor.T
