/- What the claim needs of the texts TFunc. -/
import Derived.Test.YtmclaaonlhnbmaaGreatDoorROp
import Derived.Test.YtmclaaonlhnbmaaGreatDoorR18
import Derived.Test.YtmclaaonlhnbmaaGreatDoorR19
namespace Go.Proofs.YtmclaaonlhnbmaaGreatDoor.T
open Go.RowKit
open Go.Lib hiding intOf
open U S L
theorem params_succ (L:List TokP) (M n i:Nat) (acc:List Pt):params L M (n+1) i acc =
  (param L M kParam i).next fun p j=>if isT L [41] j then .ok (acc++[p]) (j+1) else (mustT L [44] j).next fun _ k=>params L M n k (acc++[p]):=rfl
theorem params_fwd (L:List TokP) (M:Nat):∀ (n i:Nat) (acc:List Pt),i≤L.length→Fw L i (params L M n i acc)
 | 0,i,acc,hi=>⟨Nat.le_refl _,hi⟩
 | n+1,i,acc,hi=>by
  rw [params_succ];refine ((param_fwd M kParam hi).next fun p j _ _ hj=>?_).toFw
  split
  ·rename_i h
   exact .ok (Nat.le_succ _) (isT_lt h) _
  ·exact (((mustT_fwd _ hj).next fun _ k _ _ hk=>params_fwd L M n k _ hk)).toFw
def Out.ls:Out (List Pt)→List Pt
 | .ok l _=>l
 | .bad _=>[]
theorem ls_ok {o:Out (List Pt)} (h:o.isBad=false):o=.ok o.ls o.at:=by
 cases o with
 | ok l j=>rfl
 | bad j=>cases h
theorem ListV.kids {B:Nat} {o:Out (List Pt)} {n:Nat} {xs:List Value} {W:World} {a:Option Addr} {c j:Nat} {ks:List Pt} {R:Nat→Prop} (h:ListV B o (.slice a n c) n xs W) (ho:o=.ok ks j) (hR:∀ g,B≤g→R g) (K T:By) (F E:Int):KidsIn W R (.mk K T F E ks) (.slice a n c):=by
 obtain ⟨e1,e2⟩:=h.parts ks j ho
 rcases h.own.2 with ⟨h1,h2⟩|⟨g,cap,cur,h1,h2,h3,h4,_,_,h6⟩
 ·cases h1
  have hk:ks=[]:=List.eq_nil_of_length_eq_zero (by omega);subst hk
  exact ⟨_,_,by rw [List.length_nil,← h2],by omega,.inl rfl⟩
 ·cases h1
  refine ⟨_,_,by rw [e1],by omega,.inr ⟨g,0,xs,rfl,hR g h2,fun j u hj=>?_,PartsIn.later (fun _ _ _=>rfl) (fun g hg=>hR g hg.1) _ _ e2⟩⟩
  unfold World.cell?
  rw [h3];rw [← h6,List.getElem?_take] at hj
  split at hj
  ·simpa using hj
  ·cases hj
theorem parts_at {W:World} {R:Nat→Prop}:∀ {l:List Pt} {xs:List Value} {i:Nat} {K T:By} {F E:Int} {ks:List Pt},PartsIn W R l xs→l[i]?=some (.mk K T F E ks)→xs[i*5+2]?=some (.int .i64 F)∧xs[i*5+3]?=some (.int .i64 E)
 | [],_,_,_,_,_,_,_,_,h=>by simp at h
 | .mk k t f e ks :: r,xs,0,K,T,F,E,ks',h,hi=>by
  obtain ⟨lv,rest,rfl,h2,h3⟩:=h;simp only [List.getElem?_cons_zero,Option.some.injEq,Pt.mk.injEq] at hi;obtain ⟨_,_,rfl,rfl,_⟩:=hi
  exact ⟨rfl,rfl⟩
 | p :: r,xs,i+1,K,T,F,E,ks',h,hi=>by
  obtain ⟨lv,rest,rfl,h2,h3⟩:=h;rw [List.getElem?_cons_succ] at hi;obtain ⟨a1,a2⟩:=parts_at h3 hi;have hl:=five_length p lv
  constructor
  ·rw [List.getElem?_append_right (by omega),hl,show (i+1)*5+2 - 5=i*5+2 by omega];exact a1
  ·rw [List.getElem?_append_right (by omega),hl,show (i+1)*5+3 - 5=i*5+3 by omega];exact a2
theorem allP_mk {W:World} {R:Nat→Prop} {ps:List Pt} {xs:List Value} {n:Nat} (hp:PartsIn W R ps xs) (hn:ps.length=n) (K:By):allP K ps=.mk K [] (firstF n xs) (lastE n xs) ps:=by
 cases ps with
 | nil =>
  have:n=0:=by simpa using hn.symm
  subst this
  rfl
 | cons p r =>
  obtain ⟨k,t,f,e,ks⟩:=p
  have h0:n≠0:=by rw [← hn];simp
  have h1:=(parts_at (i:=0) hp rfl).1
  unfold allP firstF lastE
  rw [if_neg h0,if_neg h0,show xs[2]?=some (.int .i64 f) from h1]
  have hl:(Pt.mk k t f e ks :: r).getLast?=(Pt.mk k t f e ks :: r)[n - 1]?:=by rw [List.getLast?_eq_getElem?,hn]
  show Pt.mk K [] f (match (Pt.mk k t f e ks :: r).getLast? with|some (.mk _ _ _ e' _)=>e'|none=>0) (Pt.mk k t f e ks :: r)=_
  rw [hl]
  have hlt:n - 1<(Pt.mk k t f e ks :: r).length:=by omega
  cases hpl:(Pt.mk k t f e ks :: r)[n - 1] with
  | mk k' t' f' e' ks' =>
   have hg:(Pt.mk k t f e ks :: r)[n - 1]?=some (.mk k' t' f' e' ks'):=by rw [List.getElem?_eq_getElem hlt,hpl]
   rw [hg,(parts_at hp hg).2]
   rfl
set_option maxHeartbeats 16000000 in
set_option maxRecDepth 20000 in
theorem function_any (d:Nat) (L:List TokP) (lv:Value) (hL:L.length≤1000000) (n i:Nat) (b:Bool) (w:World) (hR:Rd d lv i b w) (hT:Tk d L lv w) (hi:i≤L.length) (hn:b=false→8*(L.length - i)+5≤n) :
  Calls Tryz.prog 22 #[.pointer (some ⟨d,0,none⟩)] w (Reads d lv (start b i (func' L n i)) w):=by
 obtain ⟨O,hO⟩:∃ O,start b i (func' L n i)=O:=⟨_,rfl⟩;have HO:=hid hO;rw [hO];clear hO;have hd:=hR.lt;obtain ⟨W1,hW1⟩:∃ W1,w.alloc zeroP=W1:=⟨_,rfl⟩
 have hb1:Below w.heap.size w W1:=by rw [← hW1];exact (Below.refl _ w).alloc (Nat.le_refl _) _
 have HM1:=hid (Mv.of_below (d:=d) hb1)
 have hq1:W1.heap[w.heap.size]?=some (.cells #[.string ⟨#[]⟩,.string ⟨#[]⟩,.int .i64 0,.int .i64 0,.slice none 0 0] 25 (0,0)):=by rw [← hW1];exact heap_alloc_new w _
 have hR1:Rd d lv i b W1:=hR.below hb1;have hT1:=hT.mv (Mv.of_below hb1) (Nat.le_refl _);have c1:=from_any d L lv i b W1 hR1 hT1;obtain ⟨fr,hfr⟩:∃ fr,fromT L i=fr:=⟨_,rfl⟩;rw [hfr] at c1;have HFR:=hid hfr;have HW1:=hid hW1;have HQ1:=hid hq1;have HR1:=hid hR1;have HT1:=hid hT1;have HT0:=hid hT;have HN:=hid hn;obtain ⟨Q,hQ⟩:∃ Q,Reads d lv O w=Q:=⟨_,rfl⟩;have HQ:=hid hQ;rw [hQ];clear hW1 hq1 hb1 hR1 hT1 hfr hn hQ hR hT
 go_enter Tryz.func22,Tryz.ntmps22
 go_wp2_with fail
 rw [HW1.out];refine c1.mono ?_;intro x w2 h2;obtain ⟨rfl,hw2⟩:=h2.went HR1.out;have HM2:=hid hw2.2;have HR2:=hid hw2.1;clear c1 h2 hw2;obtain ⟨om,hom⟩:∃ u,start b i (mustT L kFunc i)=u:=⟨_,rfl⟩;obtain ⟨nm,hnm⟩:∃ u,start om.isBad om.at (nameT L om.at)=u:=⟨_,rfl⟩;obtain ⟨op,hop⟩:∃ u,start nm.isBad nm.at (mustT L [40] nm.at)=u:=⟨_,rfl⟩;obtain ⟨OL,hOL⟩:∃ u,start op.isBad op.at (if isT L [41] op.at then .ok [] (op.at+1) else params L n n op.at [])=u:=⟨_,rfl⟩;obtain ⟨oR,hoR⟩:∃ u,start OL.isBad OL.at (if isT L [123] OL.at then .ok [] OL.at else (typed L n OL.at).next fun x q=>.ok [x] q:Out (List Pt))=u:=⟨_,rfl⟩;obtain ⟨ob,hob⟩:∃ u,start oR.isBad oR.at (block L n oR.at)=u:=⟨_,rfl⟩;obtain ⟨sv,hsv⟩:∃ u,nameV nm=u:=⟨_,rfl⟩;have HFst:Hid (Fol L i b (start b i (Out.ok () i:Out Unit))):=hid (.begun hi ⟨Nat.le_refl _,hi⟩);have HFom:Hid (Fol L i b om):=hid (by rw [← hom];exact .begun hi (mustT_fwd _ hi).toFw);have HFnm:Hid (Fol L i b nm):=hid (by rw [← hnm];exact HFom.out.step (nameT_fwd HFom.out.le).toFw);have HFop:Hid (Fol L i b op):=hid (by rw [← hop];exact HFnm.out.step (mustT_fwd _ HFnm.out.le).toFw)
 have HFOL:Hid (Fol L i b OL):=hid (by
  rw [← hOL];refine HFop.out.step ?_
  split
  ·rename_i h
   exact .ok (Nat.le_succ _) (isT_lt h) _
  ·exact params_fwd L n n _ _ HFop.out.le)
 have HFoR:Hid (Fol L i b oR):=hid (by
  rw [← hoR];refine HFOL.out.step ?_
  split
  ·exact .ok (Nat.le_refl _) HFOL.out.le _
  ·exact ((typed_fwd n _ HFOL.out.le).next fun x q _ _ hq=>Fw.ok (Nat.le_refl _) hq _).toFw)
 have HFob:Hid (Fol L i b ob):=hid (by rw [← hob];exact HFoR.out.step ((all_fwdS L n).block _ HFoR.out.le).toFw);have HSoR:Hid (oR.isBad=false→b=false):=hid (fun h=>HFoR.out.so h)
 have HGop:Hid (op.isBad=false→1≤op.at∧b=false):=hid (fun h=>by
  refine ⟨?_,HFop.out.so h⟩;rw [← hop] at h ⊢;obtain ⟨h1,h2⟩:=start_so h;rw [h2] at h ⊢;have:=(mustT_fwd [40] HFnm.out.le).gt h
  omega)
 have HO3:Hid (O=ob.next fun b r=>part L kFunc nm.by' fr [allP kParams OL.ls,allP kResult oR.ls,b] r):=hid (by
  rw [← HO.out,← HFR.out]
  have h0:start b i (func' L n i)=om.next fun _ j=>(nameT L j).next fun s k=>(mustT L [40] k).next fun _ m =>
    (if isT L [41] m then .ok [] (m+1) else params L n n m []).next fun ps o=>(if isT L [123] o then .ok [] o else (typed L n o).next fun x q=>.ok [x] q).next fun rs q=>(block L n q).next fun b r=>part L kFunc s (fromT L i) [allP kParams ps,allP kResult rs,b] r:=by
   rw [← hom,← start_next];rfl
  rw [h0]
  cases om with
  | bad j=>subst hnm;subst hop;subst hOL;subst hoR;subst hob;rfl
  | ok u j =>
   have hnm:nameT L j=nm:=hnm
   show ((nameT L j).next _)=_
   rw [hnm]
   cases nm with
   | bad j=>subst hop;subst hOL;subst hoR;subst hob;rfl
   | ok s k =>
    have hop:mustT L [40] k=op:=hop
    show ((mustT L [40] k).next _)=_
    rw [hop]
    cases op with
    | bad j=>subst hOL;subst hoR;subst hob;rfl
    | ok u m =>
     have hOL:(if isT L [41] m then .ok [] (m+1) else params L n n m [])=OL:=hOL
     show ((if isT L [41] m then .ok [] (m+1) else params L n n m []:Out (List Pt)).next _)=_
     rw [hOL]
     cases OL with
     | bad j=>subst hoR;subst hob;rfl
     | ok ps o =>
      have hoR:(if isT L [123] o then .ok [] o else (typed L n o).next fun x q=>.ok [x] q:Out (List Pt))=oR:=hoR
      show ((if isT L [123] o then .ok [] o else (typed L n o).next fun x q=>.ok [x] q:Out (List Pt)).next _)=_
      rw [hoR]
      cases oR with
      | bad j=>subst hob;rfl
      | ok rs q =>
       have hob:block L n q=ob:=hob
       show ((block L n q).next _)=_
       rw [hob]
       rfl)
 have HAT:Hid (O.at=ob.at∧O.isBad=ob.isBad):=hid (by rw [HO3.out];cases ob <;> exact ⟨rfl,rfl⟩)
 have HPL:Hid (∀ p j,O=.ok p j→p=.mk kFunc nm.by' fr (toT L ob.at) [allP kParams OL.ls,allP kResult oR.ls,ob.pt]∧bstr nm.by'=sv∧OL=.ok OL.ls OL.at∧oR=.ok oR.ls oR.at∧ob=.ok ob.pt ob.at):=hid (by
  intro p j hpj;rw [HO3.out] at hpj
  have hb:ob.isBad=false:=by
   cases ob with
   | bad j=>cases hpj
   | ok a k=>rfl
  have h1:=out_pt hb;have h2:=hb;rw [← hob] at h2;have h3:=(start_so h2).1;have h4:=h3;rw [← hoR] at h4;have h5:=(start_so h4).1;have h6:=h5;rw [← hOL] at h6;have h7:=(start_so h6).1;rw [← hop] at h7;obtain ⟨j2,h8⟩:=by_bad (start_so h7).1;rw [h1] at hpj;simp only [Out.next,part,Out.ok.injEq] at hpj;refine ⟨hpj.1.symm,?_,ls_ok h5,ls_ok h3,h1⟩;rw [← hsv]
  rw [h8];rfl)
 obtain ⟨iP,hi0,hz0,hz1,hz2⟩:=info_partsT infoPT;have Hom:=hid hom;have Hnm:=hid hnm;have Hsv:=hid hsv;have Hop:=hid hop;have HOL:=hid hOL;have HoR:=hid hoR;have Hob:=hid hob;clear hom hnm hsv hop hOL hoR hob;have c3:=must_any d L lv i b kFunc w2 HR2.out (HT1.out.mv HM2.out (Nat.le_refl _)) (by have:=HFst.out.le;omega);rw [Hom.out,show bstr kFunc=⟨#[102,117,110,99]⟩ from rfl] at c3
 go_wp2_with fail
 refine c3.mono ?_;rintro x w3 ⟨rfl,hw3⟩;have HM3:=hid (HM2.out.trans (hw3.2.mono HM2.out.size));have HR3:=hid hw3.1
 skip
 clear c3 hw3;have c4:=name_any10 d L lv om.at om.isBad w3 HR3.out (HT1.out.mv HM3.out (Nat.le_refl _)) (by have:=HFom.out.le;omega);rw [Hnm.out,Hsv.out] at c4
 go_wp2_with fail
 refine c4.mono ?_;rintro x w4 ⟨rfl,hw4⟩;have HM4:=hid (HM3.out.trans (hw4.2.mono HM3.out.size));have HR4:=hid hw4.1
 skip
 clear c4 hw4;have c5:=must_any d L lv nm.at nm.isBad [40] w4 HR4.out (HT1.out.mv HM4.out (Nat.le_refl _)) (by have:=HFnm.out.le;omega);rw [Hop.out,show bstr [40]=⟨#[40]⟩ from rfl] at c5
 go_wp2_with fail
 refine c5.mono ?_;rintro x w5 ⟨rfl,hw5⟩;have HM5:=hid (HM4.out.trans (hw5.2.mono HM4.out.size));have HR5:=hid hw5.1
 skip
 clear c5 hw5;have c8:=take_any d L lv op.at op.isBad [41] w5 HR5.out (HT1.out.mv HM5.out (Nat.le_refl _)) (by have:=HFop.out.le;omega);rw [show bstr [41]=⟨#[41]⟩ from rfl] at c8;obtain ⟨R3,hR3⟩:∃ R,(!op.isBad&&isT L [41] op.at)=R:=⟨_,rfl⟩;rw [hR3] at c8;have HR3:=hid hR3;clear hR3
 go_wp2_with fail
 refine c8.mono ?_;rintro x w8 ⟨rfl,hw8⟩;have HM8:=hid (HM5.out.trans (hw8.2.mono HM5.out.size))
 have HINV:Hid (LoopInv d L lv W1 OL (fun m j l=>params L n m j l) 0 n R3 (start op.isBad (if R3=true then op.at+1 else op.at) (.ok [] (if R3=true then op.at+1 else op.at))) (.slice none 0 0) 0 [] n w8):=hid (by
  have h1:(start op.isBad (if R3=true then op.at+1 else op.at) (.ok [] (if R3=true then op.at+1 else op.at):Out (List Pt))).at=(if R3=true then op.at+1 else op.at):=by cases op.isBad <;> rfl
  have h2:(start op.isBad (if R3=true then op.at+1 else op.at) (.ok [] (if R3=true then op.at+1 else op.at):Out (List Pt))).isBad=op.isBad:=by cases op.isBad <;> rfl
  have h3:=HR3.out
  refine ⟨?_,by rw [h1,h2];exact hw8.1,HM8.out,(ListV.nil _ (if R3=true then op.at+1 else op.at) _).out (fun l j h=>?_),?_,Nat.zero_le _,?_,fun hr hb=>?_⟩
  ·rw [← HOL.out]
   cases hb:op.isBad
   ·rw [hb] at h3
    have h3:isT L [41] op.at=R3:=h3;rw [start_false,start_false,h3]
    cases R3 <;> rfl
   ·rw [hb] at h3
    have h3:false=R3:=h3;rw [← h3];rfl
  ·cases hb:op.isBad
   ·rw [hb] at h
    exact ⟨_,by cases h;rfl⟩
   ·rw [hb] at h
    cases h
  ·rw [h1]
   split
   ·rename_i hr
    rw [hr] at h3
    have h4:op.isBad=false∧isT L [41] op.at=true:=by simpa using h3
    exact isT_lt h4.2
   ·exact HFop.out.le
  ·rw [h1,h2]
   cases hb:op.isBad
   ·have:=(HGop.out hb).1
    rw [if_neg (by decide)]
    split <;> omega
   ·rw [if_pos rfl];exact Nat.zero_le _
  ·rw [h1,hr,if_neg (by decide)]
   rw [h2] at hb;have h6:=HN.out (HGop.out hb).2;have h7:=HFop.out.ge
   omega)
 clear c8 hw8
 go_wp2_with fail
 go_loopw [5,6] (fun av fv wr=>∃ (fin:Bool) (o:Out (List Pt)) (v:Value) (nn:Nat) (xs:List Value) (mm:Nat),av=v∧fv=.bool fin∧Hid (LoopInv d L lv W1 OL (fun m j l=>params L n m j l) 0 n fin o v nn xs mm wr)) (fun _ _ wr=>(L.length+1 - atR d wr)*2+goodR d wr)
 case atStart=>exact ⟨R3,_,_,0,[],n,rfl,rfl,HINV⟩
 case round =>
  clear HINV;obtain ⟨fin,o,v,nn,xs,mm,rfl,rfl,HIN⟩:=hrel;obtain ⟨la,lc,hav⟩:=HIN.out.list.form;subst hav
  cases fin
  ·cases hob:o.isBad
   ·skip
    obtain ⟨l,hl⟩:=out_ok hob;obtain ⟨oa,hoa⟩:∃ u,o.at=u:=⟨_,rfl⟩;rw [hoa] at hl;subst hl;have hfu2:=HIN.out.fuel rfl rfl;have hle:oa≤L.length:=HIN.out.le;have hlo:0≤oa:=HIN.out.lo;have hcn:nn+1≤oa:=HIN.out.cnt;have hfu3:8*(L.length - oa)+5≤mm:=hfu2.1;have hfu4:mm≤n:=hfu2.2;obtain ⟨m',rfl⟩:∃ m',mm=m'+1:=⟨mm - 1,by omega⟩;obtain ⟨ob,hobb⟩:∃ u,start false oa (param L n kParam oa)=u:=⟨_,rfl⟩;have HFb:Hid (Fwd L oa ob):=hid (by rw [← hobb,start_false];exact param_fwd n kParam hle)
    have HOUT:Hid (OL=ob.next fun a j=>if isT L [41] j then .ok (l++[a]) (j+1) else (mustT L [44] j).next fun _ k=>params L n m' k (l++[a])):=hid (by
     have h:=HIN.out.out;rw [if_neg (by decide)] at h;rw [h,← hobb,start_false]
     exact params_succ L n m' oa l)
    have HTr:=hid (HT1.out.mv HIN.out.mv (Nat.le_refl _));have HRr:Hid (Rd d lv oa false wr):=hid HIN.out.rd;have HLr:Hid (ListV W1.heap.size (.ok l oa) (.slice la nn lc) nn xs wr):=hid HIN.out.list;have HMr:=hid HIN.out.mv;have HAT0:Hid (atR d wr=oa):=hid HRr.out.at;have HGT0:Hid (goodR d wr=1):=hid HRr.out.good;have cb:=param_any d L lv hL n kParam oa false wr HRr.out HTr.out hle (fun _=>by omega);rw [hobb,show bstr kParam=⟨#[112,97,114,97,109]⟩ from rfl] at cb;have Hobb:=hid hobb;have k2:=HRr.out.c2;clear hobb hfu2 hob hoa
    go_wp2_with fail
    refine cb.mono ?_;rintro x v5 ⟨v,rfl,⟨kb,tb,fb,eb,ab,nb,cb',rfl,hnb,hvb⟩,hw5⟩;have hLx:ListV W1.heap.size (.ok l oa) (.slice la nn lc) nn xs (v5.alloc (.cells #[.string kb,.string tb,.int .i64 fb,.int .i64 eb,.slice ab nb cb'] 25)):=(HLr.out.mv hw5.2 (by have:=HM1.out.size;omega)).mv (Mv.of_below (d:=d) ((Below.refl _ v5).alloc (Nat.le_refl _) _)) (by have:=HM1.out.size;omega);have hbx:Below v5.heap.size v5 (v5.alloc (.cells #[.string kb,.string tb,.int .i64 fb,.int .i64 eb,.slice ab nb cb'] 25)):=(Below.refl _ v5).alloc (Nat.le_refl _) _
    have hsx:W1.heap.size≤(v5.alloc (.cells #[.string kb,.string tb,.int .i64 fb,.int .i64 eb,.slice ab nb cb'] 25)).heap.size:=by have:=hw5.2.size;have:=HMr.out.size;have:=hbx.size;omega
    have HVB:=hid hvb;have HW5:=hid hw5;have HLx:=hid hLx;have HBx:=hid hbx;clear cb hvb hw5 hLx hbx hnb k2
    go_wp2_with (at_builtin;refine wpList_append_own_at _ rfl _ _ 23 rfl W1.heap.size 25 iP _ 5 72 Tryz.underlying23 hi0 hz0 hz1 hz2 rfl (by decide) _ nn xs rfl HLx.out.own ⟨v5.heap.size,0,none⟩ 1 1 [.string kb,.string tb,.int .i64 fb,.int .i64 eb,.slice ab nb cb'] rfl rfl (row_news (heap_alloc_new v5 _)) one_part (by unfold maxLen;omega) (by omega) hsx ?_)
    intro v' w7 hown hgrow _ hrow0
    have hrow:v'.ownBlock=(Value.slice la nn lc).ownBlock∨v'.ownBlock=some (v5.alloc (.cells #[.string kb,.string tb,.int .i64 fb,.int .i64 eb,.slice ab nb cb'] 25)).heap.size:=by simpa using hrow0
    clear hrow0
    have HL7:Hid (∀ o':Out (List Pt),(∀ l' j',o'=.ok l' j'→∃ p jp,ob=.ok p jp∧l'=l++[p])→ListV W1.heap.size o' v' (nn+1) (xs++[.string kb,.string tb,.int .i64 fb,.int .i64 eb,.slice ab nb cb']) w7):=hid (fun o' ho'=>HLx.out.snoc HLr.out (Nat.le_refl _) HMr.out.size HVB.out HBx.out hown hgrow hrow (fun l' j' hl'=>by
     obtain ⟨p,jp,h1,h2⟩:=ho' l' j' hl'
     exact ⟨l,oa,p,jp,rfl,h1,h2⟩))
    have hown1:∀ k,(Value.slice la nn lc).ownBlock=some k→W1.heap.size≤k:=fun k hk=>(HLx.out.own.lt k hk).1
    have hd1:d<W1.heap.size:=by have:=HM1.out.size;omega
    have HR7:Hid (Rd d lv ob.at ob.isBad w7):=hid (by
     have h:=HW5.out.1.below HBx.out
     exact (hgrow.block d h.lt (fun h'=>by have:=hown1 d h'.symm;omega)).trans h)
    have HM7:Hid (Mv W1.heap.size d W1 w7):=hid (HMr.out.trans ((HW5.out.2.mono HMr.out.size).trans (((Mv.of_below HBx.out).mono (by have:=HW5.out.2.size;have:=HMr.out.size;omega)).trans ⟨hgrow.os,hgrow.tape,hgrow.output,hgrow.size,fun k hk _=>hgrow.block k (by omega) (fun h'=>by have:=hown1 k h'.symm;omega)⟩)));have c8:=take_any d L lv ob.at ob.isBad [41] w7 HR7.out (HT1.out.mv HM7.out (Nat.le_refl _)) (by have:=HFb.out.le;omega);rw [show bstr [41]=⟨#[41]⟩ from rfl] at c8;obtain ⟨R9,hR9⟩:∃ R,(!ob.isBad&&isT L [41] ob.at)=R:=⟨_,rfl⟩;rw [hR9] at c8;have H9:=hid hR9;clear hown hgrow hrow hown1 hd1 hR9 hsx
    cases R9
    ·obtain ⟨om,hom⟩:∃ u,start ob.isBad ob.at (mustT L [44] ob.at)=u:=⟨_,rfl⟩
     have HFm:Hid (ob.at≤om.at∧om.at≤L.length∧(om.isBad=false→ob.isBad=false∧ob.at<om.at)):=hid (by
      rw [← hom]
      cases hb:ob.isBad
      ·exact ⟨(mustT_fwd _ HFb.out.le).ge,(mustT_fwd _ HFb.out.le).le,fun h=>⟨rfl,(mustT_fwd _ HFb.out.le).gt h⟩⟩
      ·exact ⟨Nat.le_refl _,HFb.out.le,fun h=>by cases h⟩)
     have HO2:Hid (OL=(om.next fun _ k=>Out.ok (l++[ob.pt]) k).next fun acc k=>params L n m' k acc):=hid (by
      rw [HOUT.out,next_next,← hom];have h9:=H9.out
      cases ob with
      | bad j=>rfl
      | ok a j =>
       have h9:isT L [41] j=false:=by simpa [Out.isBad,Out.at] using h9
       show (if isT L [41] j=true then _ else _)=_
       rw [if_neg (by rw [h9];decide)]
       rfl)
     have HO3:Hid ((om.next fun _ k=>Out.ok (l++[ob.pt]) k).at=om.at∧(om.next fun _ k=>Out.ok (l++[ob.pt]) k).isBad=om.isBad):=hid (by cases om <;> exact ⟨rfl,rfl⟩)
     have HL8:Hid (ListV W1.heap.size (om.next fun _ k=>Out.ok (l++[ob.pt]) k) v' (nn+1) (xs++[.string kb,.string tb,.int .i64 fb,.int .i64 eb,.slice ab nb cb']) w7):=hid (HL7.out _ (fun l' j' hl'=>by
      cases om with
      | bad k=>cases hl'
      | ok u k =>
       cases hl'
       exact ⟨ob.pt,ob.at,out_pt (HFm.out.2.2 rfl).1,rfl⟩))
     have Hom:=hid hom;clear hom
     go_wp2_with fail
     refine c8.mono ?_;rintro x w8 ⟨rfl,hw8⟩;have hw8:Went d lv ob.at ob.isBad w7 w8:=hw8;have HM8:=hid (HM7.out.trans (hw8.2.mono HM7.out.size));have c9:=must_any d L lv ob.at ob.isBad [44] w8 hw8.1 (HT1.out.mv HM8.out (Nat.le_refl _)) (by have:=HFb.out.le;omega);rw [Hom.out,show bstr [44]=⟨#[44]⟩ from rfl] at c9;have HW8:=hid hw8;clear c8 hw8
     go_wp2_with fail
     refine c9.mono ?_;rintro x w9 ⟨rfl,hw9⟩;have HM9:=hid (HM8.out.trans (hw9.2.mono HM8.out.size))
     have HIN2:Hid (LoopInv d L lv W1 OL (fun m j l=>params L n m j l) (0) (n) false (om.next fun _ k=>Out.ok (l++[ob.pt]) k) v' (nn+1) (xs++[.string kb,.string tb,.int .i64 fb,.int .i64 eb,.slice ab nb cb']) m' w9):=hid ⟨by rw [if_neg (by decide)];exact HO2.out,by rw [HO3.out.1,HO3.out.2];exact hw9.1,HM9.out,(HL8.out.mv HW8.out.2 (by have:=HM1.out.size;omega)).mv hw9.2 (by have:=HM1.out.size;omega),by rw [HO3.out.1];exact HFm.out.2.1,by rw [HO3.out.1];have:=HFm.out.1;have:=HFb.out.ge;omega,by
      rw [HO3.out.1,HO3.out.2];have h1:=HFm.out.1;have h2:=HFb.out.ge
      cases hb:om.isBad
      ·have h3:=HFm.out.2.2 hb
       have h4:=HFb.out.gt h3.1;rw [if_neg (by decide)];omega
      ·rw [if_pos rfl];omega,fun _ hb=>by
      rw [HO3.out.2] at hb;rw [HO3.out.1];have h3:=HFm.out.2.2 hb;have h4:=HFb.out.gt h3.1;have h5:=HFm.out.2.1
      omega⟩
     have HMS:Hid (atR d w9=om.at∧goodR d w9=if om.isBad then 0 else 1):=hid ⟨hw9.1.at,hw9.1.good⟩;clear c9 hw9
     go_wp2_with fail
     go_roundw
     case rel=>exact ⟨false,_,_,_,_,m',rfl,rfl,HIN2⟩
     case measure =>
      rw [HMS.out.1,HMS.out.2,HAT0.out,HGT0.out];have h1:=HFm.out.1;have h2:=HFb.out.ge
      cases hb:om.isBad
      ·have h3:=HFm.out.2.2 hb
       have h4:=HFb.out.gt h3.1;rw [if_neg (by decide)];omega
      ·rw [if_pos rfl];omega
    ·have hb9:ob.isBad=false∧isT L [41] ob.at=true:=by simpa using H9.out
     have hlt9:ob.at<L.length:=isT_lt hb9.2
     have HO2:Hid (OL=.ok (l++[ob.pt]) (ob.at+1)):=hid (by
      rw [HOUT.out]
      cases ob with
      | bad j=>cases hb9.1
      | ok a j =>
       show (if isT L [41] j=true then _ else _)=_
       rw [if_pos (show isT L [41] j=true from hb9.2)];rfl)
     have HL8:Hid (ListV W1.heap.size (Out.ok (l++[ob.pt]) (ob.at+1)) v' (nn+1) (xs++[.string kb,.string tb,.int .i64 fb,.int .i64 eb,.slice ab nb cb']) w7):=hid (HL7.out _ (fun l' j' hl'=>by
      cases hl'
      exact ⟨ob.pt,ob.at,out_pt hb9.1,rfl⟩))
     have HB9:=hid hb9;have HLT9:=hid hlt9;clear hb9 hlt9
     go_wp2_with fail
     refine c8.mono ?_;rintro x w8 ⟨rfl,hw8⟩;have hw8:Went d lv (ob.at+1) ob.isBad w7 w8:=hw8;rw [HB9.out.1] at hw8;have HM8:=hid (HM7.out.trans (hw8.2.mono HM7.out.size));have HIN2:Hid (LoopInv d L lv W1 OL (fun m j l=>params L n m j l) (0) (n) true (Out.ok (l++[ob.pt]) (ob.at+1)) v' (nn+1) (xs++[.string kb,.string tb,.int .i64 fb,.int .i64 eb,.slice ab nb cb']) m' w8):=hid ⟨by rw [if_pos rfl];exact HO2.out,hw8.1,HM8.out,HL8.out.mv hw8.2 (by have:=HM1.out.size;omega),HLT9.out,by show 0≤ob.at+1;have:=HFb.out.ge;omega,by show nn+1+1≤ob.at+1;have:=HFb.out.gt HB9.out.1;omega,fun h=>by cases h⟩;have HMS:Hid (atR d w8=ob.at+1∧goodR d w8=1):=hid ⟨hw8.1.at,hw8.1.good⟩;clear c8 hw8
     go_wp2_with fail
     go_roundw
     case rel=>exact ⟨true,_,_,_,_,m',rfl,rfl,HIN2⟩
     case measure =>
      rw [HMS.out.1,HMS.out.2,HAT0.out,HGT0.out];have h2:=HFb.out.ge
      omega
   ·have hox:OL=o:=by
     rw [HIN.out.out,if_neg (by decide)]
     cases o with
     | ok a j=>cases hob
     | bad j=>rfl
    have hc2:=HIN.out.rd.c2;rw [hob] at hc2;clear hob;subst hox;have HCP:Hid (nn≤1000000):=hid (by have h1:=HIN.out.cnt;have h2:=HIN.out.le;split at h1 <;> omega);have HRp:Hid (Rd d lv OL.at OL.isBad wr):=hid HIN.out.rd;have ci:=is_any d L lv OL.at OL.isBad [123] wr HRp.out (HT1.out.mv HIN.out.mv (Nat.le_refl _));rw [show bstr [123]=⟨#[123]⟩ from rfl] at ci;obtain ⟨R5,hR5⟩:∃ R,(!OL.isBad&&isT L [123] OL.at)=R:=⟨_,rfl⟩;rw [hR5] at ci;have H5:=hid hR5;clear hR5
    cases R5
    ·go_wp2_with fail
     refine ci.mono ?_;intro x w4 h4;obtain ⟨rfl,hw4⟩:=h4.went HRp.out;have HMr:=hid (HIN.out.mv.trans (hw4.2.mono HIN.out.mv.size));have HRr:=hid hw4.1;have HTr:=hid (HT1.out.mv HMr.out (Nat.le_refl _));have HLP4:=hid (HIN.out.list.mv hw4.2 (by have:=HM1.out.size;omega));have HLr:Hid (ListV W1.heap.size (Out.ok [] 0) (.slice none 0 0) 0 [] w4):=hid (ListV.nil _ _ _);obtain ⟨oo,hoo⟩:∃ u,start OL.isBad OL.at (typed L n OL.at)=u:=⟨_,rfl⟩
     have HE4:Hid (oR=oo.next fun x q=>.ok [x] q):=hid (by
      rw [← HoR.out,← hoo];have h:=H5.out
      cases hb:OL.isBad
      ·rw [hb] at h
       have h:isT L [123] OL.at=false:=h;rw [start_false,start_false,if_neg (by rw [h];decide)]
      ·rfl)
     have HE5:Hid (oR.at=oo.at∧oR.isBad=oo.isBad):=hid (by rw [HE4.out];cases oo <;> exact ⟨rfl,rfl⟩);have Hoo:=hid hoo;clear ci h4 hw4 hoo;have cb:=typed_any d L lv hL n OL.at OL.isBad w4 HRr.out HTr.out HFOL.out.le (fun h=>by have h3:=HN.out (HFOL.out.so h);have h5:=HFOL.out.ge;omega);rw [Hoo.out] at cb
     go_wp2_with fail
     refine cb.mono ?_;rintro x v5 ⟨v,rfl,⟨kb,tb,fb,eb,ab,nb,cb',rfl,hnb,hvb⟩,hw5⟩;have hLx:ListV W1.heap.size (Out.ok [] 0) (.slice none 0 0) 0 [] (v5.alloc (.cells #[.string kb,.string tb,.int .i64 fb,.int .i64 eb,.slice ab nb cb'] 25)):=(HLr.out.mv hw5.2 (by have:=HM1.out.size;omega)).mv (Mv.of_below (d:=d) ((Below.refl _ v5).alloc (Nat.le_refl _) _)) (by have:=HM1.out.size;omega);have hbx:Below v5.heap.size v5 (v5.alloc (.cells #[.string kb,.string tb,.int .i64 fb,.int .i64 eb,.slice ab nb cb'] 25)):=(Below.refl _ v5).alloc (Nat.le_refl _) _
     have hsx:W1.heap.size≤(v5.alloc (.cells #[.string kb,.string tb,.int .i64 fb,.int .i64 eb,.slice ab nb cb'] 25)).heap.size:=by have:=hw5.2.size;have:=HMr.out.size;have:=hbx.size;omega
     have HVB:=hid hvb;have HW5:=hid hw5;have HLx:=hid hLx;have HBx:=hid hbx;clear cb hvb hw5 hLx hbx hnb
     go_wp2_with (at_builtin;refine wpList_append_own_at _ rfl _ _ 23 rfl W1.heap.size 25 iP _ 5 72 Tryz.underlying23 hi0 hz0 hz1 hz2 rfl (by decide) _ 0 [] rfl HLx.out.own ⟨v5.heap.size,0,none⟩ 1 1 [.string kb,.string tb,.int .i64 fb,.int .i64 eb,.slice ab nb cb'] rfl rfl (row_news (heap_alloc_new v5 _)) one_part (by unfold maxLen;omega) (by omega) hsx ?_)
     intro v' w7 hown hgrow _ hrow0
     have hrow:v'.ownBlock=(Value.slice none 0 0).ownBlock∨v'.ownBlock=some (v5.alloc (.cells #[.string kb,.string tb,.int .i64 fb,.int .i64 eb,.slice ab nb cb'] 25)).heap.size:=by simpa using hrow0
     clear hrow0
     have hown1:∀ k,(Value.slice none 0 0).ownBlock=some k→W1.heap.size≤k:=fun k hk=>(HLx.out.own.lt k hk).1
     have hd1:d<W1.heap.size:=by have:=HM1.out.size;omega
     have HR7:Hid (Rd d lv oo.at oo.isBad w7):=hid (by
      have h:=HW5.out.1.below HBx.out
      exact (hgrow.block d h.lt (fun h'=>by have:=hown1 d h'.symm;omega)).trans h)
     have HM7:Hid (Mv W1.heap.size d W1 w7):=hid (HMr.out.trans ((HW5.out.2.mono HMr.out.size).trans (((Mv.of_below HBx.out).mono (by have:=HW5.out.2.size;have:=HMr.out.size;omega)).trans ⟨hgrow.os,hgrow.tape,hgrow.output,hgrow.size,fun k hk _=>hgrow.block k (by omega) (fun h'=>by have:=hown1 k h'.symm;omega)⟩)))
     have HL7:Hid (ListV W1.heap.size oR v' (0+1) ([]++[.string kb,.string tb,.int .i64 fb,.int .i64 eb,.slice ab nb cb']) w7):=hid (HLx.out.snoc HLr.out (Nat.le_refl _) HMr.out.size HVB.out HBx.out hown hgrow hrow (fun l j hl=>by
     rw [HE4.out] at hl
     cases oo with
     | bad k=>cases hl
     | ok o k =>
      cases hl
      exact ⟨[],0,o,_,rfl,rfl,rfl⟩))
     obtain ⟨ra,rc,hv'⟩:=HL7.out.form;subst hv';have HLP7:=hid (HLP4.out.mv HW5.out.2 hd1);have HLP7x:=hid (HLP7.out.mv (Mv.of_below (d:=d) HBx.out) hd1);have HLP8:Hid (ListV W1.heap.size OL (.slice la nn lc) nn xs w7):=hid (HLP7x.out.mv ⟨hgrow.os,hgrow.tape,hgrow.output,hgrow.size,fun k hk _=>hgrow.block k hk (fun h'=>by cases h')⟩ hd1);have HR9:Hid (Rd d lv oR.at oR.isBad w7):=hid (by rw [HE5.out.1,HE5.out.2];exact HR7.out);have HM9:=HM7;have HCR:Hid (0+1≤1000000):=hid (by omega);clear hown hgrow hrow hown1 hd1 hsx;have c10:=block_any d L lv hL n oR.at oR.isBad w7 HR9.out (HT1.out.mv HM9.out (Nat.le_refl _)) HFoR.out.le (fun h=>by have h3:=HN.out (HSoR.out h);have h5:=HFoR.out.ge;omega);rw [Hob.out] at c10
     go_wp2_with fail
     refine c10.mono ?_;rintro x w10 ⟨v,rfl,⟨kx0,tx0,fx0,ex0,ax0,nx0,cx0,rfl,hnnx0,hvx0⟩,hw10⟩;have HVx0:=hid hvx0;have HNNx0:=hid hnnx0;clear hnnx0;have HWx0:=hid hw10;clear c10 hvx0 hw10
     go_upto_region 16 with fail
     obtain ⟨qx0,hqx0⟩:∃ q,w10.heap.size=q:=⟨_,rfl⟩;obtain ⟨V10,hV10⟩:∃ V,w10.alloc (.cells #[.string kx0,.string tx0,.int .i64 fx0,.int .i64 ex0,.slice ax0 nx0 cx0] 25)=V:=⟨_,rfl⟩
     have hb10:Below w10.heap.size w10 V10:=by rw [← hV10];exact (Below.refl _ w10).alloc (Nat.le_refl _) _
     have HBx0:Hid (V10.heap[qx0]?=some (.cells #[.string kx0,.string tx0,.int .i64 fx0,.int .i64 ex0,.slice ax0 nx0 cx0] 25 (0,0))):=hid (by rw [← hV10,← hqx0];exact heap_alloc_new w10 _);have HSx0:Hid (Mv w10.heap.size d w10 V10):=hid (Mv.of_below hb10);have HLx0:Hid (W1.heap.size≤w7.heap.size∧w7.heap.size≤w10.heap.size∧qx0=w10.heap.size):=hid ⟨HM9.out.size,HWx0.out.2.size,hqx0.symm⟩;rw [hV10,hqx0];have HM10:=hid ((HM9.out.trans (HWx0.out.2.mono HM9.out.size)).trans ((Mv.of_below hb10).mono (Nat.le_trans HM9.out.size HWx0.out.2.size)));have HR10:=hid (HWx0.out.1.below hb10)
     skip
     clear hV10 hb10 hqx0;have HDx0_10:Hid (Mv V10.heap.size d V10 V10):=hid (Mv.refl _ _ _);have HLP1:=hid (((HLP8.out).mv (HWx0.out.2) (by have:=HM1.out.size;omega)).mv HSx0.out (by have:=HM1.out.size;omega));have HLR1:=hid (((HL7.out).mv (HWx0.out.2) (by have:=HM1.out.size;omega)).mv HSx0.out (by have:=HM1.out.size;omega));have HBV:Hid (V10.drew.heap[qx0]?=some (.cells #[.string kx0,.string tx0,.int .i64 fx0,.int .i64 ex0,.slice ax0 nx0 cx0] 25 (0,0))):=hid HBx0.out;have HLPV:Hid (ListV W1.heap.size OL (.slice la nn lc) nn xs V10.drew):=hid (HLP1.out.mv ((Mv.refl _ d _).drewN 1) (by have:=HM1.out.size;omega));have HLRV:Hid (ListV W1.heap.size oR (.slice ra (0+1) rc) (0+1) ([]++[.string kb,.string tb,.int .i64 fb,.int .i64 eb,.slice ab nb cb']) V10.drew):=hid (HLR1.out.mv ((Mv.refl _ d _).drewN 1) (by have:=HM1.out.size;omega));have HMV:Hid (Mv W1.heap.size d W1 V10.drew):=hid (HM10.out.drewN 1);have HRV:Hid (Rd d lv ob.at ob.isBad V10.drew):=hid HR10.out;have HSV:Hid (Mv w10.heap.size d w10 V10.drew):=hid (HSx0.out.drewN 1);refine wp_region_held_drew (S:=fun X=>X.heap[qx0]?=some (.cells #[.string kx0,.string tx0,.int .i64 fx0,.int .i64 ex0,.slice ax0 nx0 cx0] 25 (0,0))) (by kernel_rfl) HBV.out (fun hHeld=>?_);obtain ⟨V,hV⟩:∃ V,V10.drew=V:=⟨_,rfl⟩;rw [hV] at hHeld HBV HLPV HLRV HMV HRV HSV ⊢;clear hV
     refine wpAnyH_take (i:=0) (oi:=OP.p70) (v:=.pointer (some ⟨d,0,none⟩)) rfl (by kernel_rfl) (by kernel_rfl) (by kernel_rfl) (fun _ _ _ h=>h) (Or.inl ⟨by rfl,fun X hX=>rfl⟩) hHeld ?_
     (try simp only [Act.put,OP.a,OP.b,OP.c])
     refine wpAnyH_take (i:=1) (oi:=OP.p71) (v:=.string sv) rfl (by kernel_rfl) (by kernel_rfl) (by kernel_rfl) (fun _ _ _ h=>h) (Or.inl ⟨by rfl,fun X hX=>rfl⟩) hHeld ?_
     (try simp only [Act.put,OP.a,OP.b,OP.c])
     refine wpAnyH_take (i:=2) (oi:=OP.p72) (v:=.int .i64 fr) rfl (by kernel_rfl) (by kernel_rfl) (by kernel_rfl) (fun _ _ _ h=>h) (Or.inl ⟨by rfl,fun X hX=>rfl⟩) hHeld ?_
     (try simp only [Act.put,OP.a,OP.b,OP.c])
     refine wpAnyH_take (i:=3) (oi:=OP.p73) (v:=.slice la nn lc) rfl (by kernel_rfl) (by kernel_rfl) (by kernel_rfl) (fun _ _ _ h=>h) (Or.inl ⟨by rfl,fun X hX=>rfl⟩) hHeld ?_
     (try simp only [Act.put,OP.a,OP.b,OP.c])
     refine wpAnyH_take (i:=5) (oi:=OP.p74) (v:=.slice ra (0+1) rc) rfl (by kernel_rfl) (by kernel_rfl) (by kernel_rfl) (fun _ _ _ h=>h) (Or.inl ⟨by rfl,fun X hX=>rfl⟩) hHeld ?_
     (try simp only [Act.put,OP.a,OP.b,OP.c])
     refine wpAnyH_take (i:=7) (oi:=OP.p75) (v:=.agg #[.string kx0,.string tx0,.int .i64 fx0,.int .i64 ex0,.slice ax0 nx0 cx0]) rfl (by kernel_rfl) (by kernel_rfl) (by kernel_rfl) (fun _ _ _ h=>h) (Or.inl ⟨by rfl,fun X hX=>by obtain ⟨q0,q1,q2,q3,q4⟩:=(five_cells hX).1;go_simp⟩) hHeld ?_
     (try simp only [Act.put,OP.a,OP.b,OP.c])
     have cA:=all_fn ⟨#[112,97,114,97,109,115]⟩ nn xs la lc V HLPV.out.own HLPV.out.fives HCP.out;obtain ⟨F1,hF1⟩:∃ u,firstF nn xs=u:=⟨_,rfl⟩;obtain ⟨E1,hE1⟩:∃ u,lastE nn xs=u:=⟨_,rfl⟩;rw [hF1,hE1] at cA;have HF1:=hid hF1;have HE1:=hid hE1;clear hF1 hE1;refine wpAnyH_ready (rs:=[4]) (by kernel_rfl) (by simp) ?_;refine (AllReadyH.cons (o:=OP.p76) rfl (fun K hK=>?_) AllReadyH.nil);refine wanted_step (by kernel_rfl) ?_
     go_simp
     go_at_call 53
     refine cA.mono ?_;rintro x wA ⟨rfl,hbA⟩;have hHeldA:wA.heap[qx0]?=some (.cells #[.string kx0,.string tx0,.int .i64 fx0,.int .i64 ex0,.slice ax0 nx0 cx0] 25 (0,0)):=(hbA.block _ (Array.getElem?_eq_some_iff.1 hHeld).1).trans hHeld;have HBA:=hid hbA;have HLRA:=hid (HLRV.out.mv (Mv.of_below (d:=d) hbA) (by have:=HM1.out.size;omega));clear cA hbA;dsimp only;refine hK.out _ _ (hHeldA) (fun hHeld2=>?_)
     (try simp only [Act.put,OP.a,OP.b,OP.c])
     clear hK K;have cB:=all_fn ⟨#[114,101,115,117,108,116]⟩ (0+1) ([]++[.string kb,.string tb,.int .i64 fb,.int .i64 eb,.slice ab nb cb']) ra rc wA HLRA.out.own HLRA.out.fives HCR.out;obtain ⟨F2,hF2⟩:∃ u,firstF (0+1) ([]++[.string kb,.string tb,.int .i64 fb,.int .i64 eb,.slice ab nb cb'])=u:=⟨_,rfl⟩;obtain ⟨E2,hE2⟩:∃ u,lastE (0+1) ([]++[.string kb,.string tb,.int .i64 fb,.int .i64 eb,.slice ab nb cb'])=u:=⟨_,rfl⟩;rw [hF2,hE2] at cB;have HF2:=hid hF2;have HE2:=hid hE2;clear hF2 hE2;refine wpAnyH_ready (rs:=[6]) (by kernel_rfl) (by simp) ?_;refine (AllReadyH.cons (o:=OP.p77) rfl (fun K hK=>?_) AllReadyH.nil);refine wanted_step (by kernel_rfl) ?_
     go_simp
     go_at_call 53
     refine cB.mono ?_;rintro x wB ⟨rfl,hbB⟩;have hHeldB:wB.heap[qx0]?=some (.cells #[.string kx0,.string tx0,.int .i64 fx0,.int .i64 ex0,.slice ax0 nx0 cx0] 25 (0,0)):=(hbB.block _ (Array.getElem?_eq_some_iff.1 hHeld2).1).trans hHeld2;have HBB:=hid (HBA.out.trans (hbB.mono HBA.out.size));clear cB hbB;dsimp only;refine hK.out _ _ (hHeldB) (fun hHeld3=>?_)
     (try simp only [Act.put,OP.a,OP.b,OP.c])
     clear hK K;obtain ⟨z,hz⟩:∃ z,wB.heap.size=z:=⟨_,rfl⟩;obtain ⟨Z,hZ⟩:∃ Z,wB.alloc (.cells #[.string ⟨#[112,97,114,97,109,115]⟩,.string ⟨#[]⟩,.int .i64 F1,.int .i64 E1,.slice la nn lc,.string ⟨#[114,101,115,117,108,116]⟩,.string ⟨#[]⟩,.int .i64 F2,.int .i64 E2,.slice ra (0+1) rc,.string kx0,.string tx0,.int .i64 fx0,.int .i64 ex0,.slice ax0 nx0 cx0] 25)=Z:=⟨_,rfl⟩
     have hbz:Below wB.heap.size wB Z:=by rw [← hZ];exact (Below.refl _ wB).alloc (Nat.le_refl _) _
     have hrz:Z.heap[z]?=some (.cells #[.string ⟨#[112,97,114,97,109,115]⟩,.string ⟨#[]⟩,.int .i64 F1,.int .i64 E1,.slice la nn lc,.string ⟨#[114,101,115,117,108,116]⟩,.string ⟨#[]⟩,.int .i64 F2,.int .i64 E2,.slice ra (0+1) rc,.string kx0,.string tx0,.int .i64 fx0,.int .i64 ex0,.slice ax0 nx0 cx0] 25 (0,0)):=by rw [← hZ,← hz];exact heap_alloc_new wB _
     have hHeldZ:Z.heap[qx0]?=some (.cells #[.string kx0,.string tx0,.int .i64 fx0,.int .i64 ex0,.slice ax0 nx0 cx0] 25 (0,0)):=(hbz.block _ (Array.getElem?_eq_some_iff.1 hHeld3).1).trans hHeld3;have HBZ:Hid (Below V.heap.size V Z):=hid (HBB.out.trans (hbz.mono HBB.out.size));have HMZ:Hid (Mv W1.heap.size d W1 Z):=hid (HMV.out.trans ((Mv.of_below HBZ.out).mono HMV.out.size));have HRZ:=hid hrz;have HZE:Hid (z=wB.heap.size∧V.heap.size≤wB.heap.size∧z<Z.heap.size):=hid ⟨hz.symm,HBB.out.size,(Array.getElem?_eq_some_iff.1 hrz).1⟩;have cP:=part_any d L lv ob.at ob.isBad ⟨#[102,117,110,99]⟩ sv fr (some ⟨z,0,none⟩) 3 3 Z (HRV.out.below HBZ.out) (HT1.out.mv HMZ.out (Nat.le_refl _)) HFob.out.le hL;obtain ⟨ez,hez⟩:∃ u,toT L ob.at=u:=⟨_,rfl⟩;rw [hez] at cP;have HEZ:=hid hez;clear hez hbz hrz;refine wpAnyH_ready (rs:=[8]) (by kernel_rfl) (by simp) ?_;refine (AllReadyH.cons (o:=OP.p78) rfl (fun K hK=>?_) AllReadyH.nil);refine wanted_step (by kernel_rfl) ?_
     go_simp
     try rw [hZ]
     try rw [hz]
     clear hZ hz;refine hK.out _ _ (hHeldZ) (fun hHeld4=>?_)
     (try simp only [Act.put,OP.a,OP.b,OP.c])
     clear hK K;refine wpAnyH_ready (rs:=[9]) (by kernel_rfl) (by simp) ?_;refine (AllReadyH.cons (o:=OP.p79) rfl (fun K hK=>?_) AllReadyH.nil);refine wanted_step (by kernel_rfl) ?_
     go_simp
     go_at_call 52
     refine cP.mono ?_;rintro x wP ⟨rfl,hwP⟩;have hHeldP:wP.heap[qx0]?=some (.cells #[.string kx0,.string tx0,.int .i64 fx0,.int .i64 ex0,.slice ax0 nx0 cx0] 25 (0,0)):=(hwP.2.block _ (Array.getElem?_eq_some_iff.1 hHeld4).1 (by have:=HLx0.out;have:=HM1.out.size;omega)).trans hHeld4;have HMP:=hid (HMZ.out.trans (hwP.2.mono HMZ.out.size));have HWP:=hid hwP;clear cP hwP;dsimp only;refine hK.out _ _ (hHeldP) (fun hHeld5=>?_)
     (try simp only [Act.put,OP.a,OP.b,OP.c])
     clear hK K;have hq8:wP.heap[w.heap.size]?=_:=(HMP.out.block w.heap.size (Array.getElem?_eq_some_iff.1 HQ1.out).1 (by omega)).trans HQ1.out;obtain ⟨⟨r0,r1,r2,r3,r4⟩,gz⟩:=five_cells hq8;have g0:=gz 0;have g1:=gz 1;have g2:=gz 2;have g3:=gz 3;have g4:=gz 4;obtain ⟨WF,hWF,hFq,hFo,-⟩:=put_five (a':=.string ⟨#[102,117,110,99]⟩) (b':=.string sv) (c':=.int .i64 fr) (e':=.int .i64 ez) (f':=.slice (some ⟨z,0,none⟩) 3 3) hq8;have hqw1:=(Array.getElem?_eq_some_iff.1 HQ1.out).1;have hHeldF:WF.heap[qx0]?=some (.cells #[.string kx0,.string tx0,.int .i64 fx0,.int .i64 ex0,.slice ax0 nx0 cx0] 25 (0,0)):=(hFo qx0 (by have:=HLx0.out;omega)).trans hHeld5;have HFQ:=hid hFq;have HWF:=hid hWF;clear gz hq8 hFq hFo hqw1;refine wpAnyH_ready (rs:=[10]) (by kernel_rfl) (by simp) ?_;refine (AllReadyH.cons (o:=OP.p80) rfl (fun K hK=>?_) AllReadyH.nil);refine wanted_step (by kernel_rfl) ?_
     go_simp
     refine hK.out _ _ (hHeldF) (fun hHeld6=>?_)
     (try simp only [Act.put,OP.a,OP.b,OP.c])
     clear hK K;clear r0 r1 r2 r3 r4 g0 g1 g2 g3 g4 hWF hHeld hHeld2 hHeld3 hHeld4 hHeld5 hHeld6 hHeldA hHeldB hHeldZ hHeldP hHeldF;refine wpAnyH_done (by kernel_rfl) ?_ _
     go_wp2_with fail
     refine bodyPost_ret (v:=.agg #[.string ⟨#[102,117,110,99]⟩,.string sv,.int .i64 fr,.int .i64 ez,.slice (some ⟨z,0,none⟩) 3 3]) (results_cell_row rfl _ _ w.heap.size 25 #[.string ⟨#[102,117,110,99]⟩,.string sv,.int .i64 fr,.int .i64 ez,.slice (some ⟨z,0,none⟩) 3 3] (0,0) _ (by rfl) HFQ.out Tryz.underlying25 rfl (by kernel_rfl)) rfl ?_;rw [← HQ.out,← HWF.out];refine reads_end hd (HM1.out.trans (HMP.out.mono HM1.out.size)) HWP.out.1 HAT.out.1 HAT.out.2 ?_ ⟨Nat.le_refl _,Nat.le_refl _⟩;have hsz:=HM1.out.size;have hqq:=(Array.getElem?_eq_some_iff.1 HQ1.out).1;have hze:=HZE.out;have hmv:=HMV.out.size;have hz7:wP.heap[z]?=_:=(HWP.out.2.block z hze.2.2 (by omega)).trans HRZ.out;refine partV_row hz7 (by omega) (fun p j hpj=>?_) (by omega) (Nat.le_refl _);obtain ⟨hp,hn8,hP,hRR,hB⟩:=HPL.out p j hpj;refine ⟨kFunc,nm.by',_,by rw [← HEZ.out];exact hp,rfl,hn8,rfl,?_⟩;have hLP:=(HLPV.out.mv (Mv.of_below (d:=d) HBZ.out) (by omega)).mv HWP.out.2 (by omega);have hLR:=(HLRV.out.mv (Mv.of_below (d:=d) HBZ.out) (by omega)).mv HWP.out.2 (by omega);have kP:=hLP.kids hP (R:=fun g=>w.heap.size<g) (fun g hg=>by omega) kParams [] F1 E1;have kR:=hLR.kids hRR (R:=fun g=>w.heap.size<g) (fun g hg=>by omega) kResult [] F2 E2;have mP:=allP_mk (hLP.parts _ _ hP).2 (hLP.parts _ _ hP).1 kParams;have mR:=allP_mk (hLR.parts _ _ hRR).2 (hLR.parts _ _ hRR).1 kResult;rw [HF1.out,HE1.out] at mP;rw [HF2.out,HE2.out] at mR;obtain ⟨u1,u2⟩:=HVx0.out ob.pt ob.at hB
     have sB:Mv w10.heap.size d w10 wP:=HSV.out.trans (((Mv.of_below HBZ.out).mono HSV.out.size).trans (HWP.out.2.mono (by have:=HSV.out.size;have:=HBZ.out.size;omega)));have kB:=u2.later (R':=fun g=>w.heap.size<g) (sB.still (Nat.le_refl _) (fun g hg=>by have:=HLx0.out;omega)) (fun g hg=>by have:=HLx0.out;omega);rw [mP,mR]
     show PartsIn wP _ _ (([.string ⟨#[112,97,114,97,109,115]⟩,.string ⟨#[]⟩,.int .i64 F1,.int .i64 E1,.slice la nn lc]:List Value)++(([.string ⟨#[114,101,115,117,108,116]⟩,.string ⟨#[]⟩,.int .i64 F2,.int .i64 E2,.slice ra (0+1) rc]:List Value)++(([.string kx0,.string tx0,.int .i64 fx0,.int .i64 ex0,.slice ax0 nx0 cx0]:List Value)++[])))
     rw [five_of u1]
     exact ⟨_,_,rfl,kP,_,_,rfl,kR,_,_,rfl,kB,rfl⟩
    ·have hb5:OL.isBad=false∧isT L [123] OL.at=true:=by simpa using H5.out
     have HE4:Hid (oR=.ok [] OL.at):=hid (by rw [← HoR.out,hb5.1,start_false,if_pos hb5.2]);have HOB:=hid hb5.1;clear hb5
     go_wp2_with fail
     refine ci.mono ?_;intro x w4 h4;obtain ⟨rfl,hw4⟩:=h4.went HRp.out;have HM9:=hid (HIN.out.mv.trans (hw4.2.mono HIN.out.mv.size));have HR9:Hid (Rd d lv oR.at oR.isBad w4):=hid (by rw [HE4.out];have h:=hw4.1;rw [HOB.out] at h;exact h);have HLP4:=hid (HIN.out.list.mv hw4.2 (by have:=HM1.out.size;omega));have HLr:Hid (ListV W1.heap.size oR (.slice none 0 0) 0 [] w4):=hid (by rw [HE4.out];exact ListV.nil _ _ _);have HCR:Hid (0≤1000000):=hid (by omega);clear ci h4 hw4;have c10:=block_any d L lv hL n oR.at oR.isBad w4 HR9.out (HT1.out.mv HM9.out (Nat.le_refl _)) HFoR.out.le (fun h=>by have h3:=HN.out (HSoR.out h);have h5:=HFoR.out.ge;omega);rw [Hob.out] at c10
     go_wp2_with fail
     refine c10.mono ?_;rintro x w10 ⟨v,rfl,⟨kx0,tx0,fx0,ex0,ax0,nx0,cx0,rfl,hnnx0,hvx0⟩,hw10⟩;have HVx0:=hid hvx0;have HNNx0:=hid hnnx0;clear hnnx0;have HWx0:=hid hw10;clear c10 hvx0 hw10
     go_upto_region 16 with fail
     obtain ⟨qx0,hqx0⟩:∃ q,w10.heap.size=q:=⟨_,rfl⟩;obtain ⟨V10,hV10⟩:∃ V,w10.alloc (.cells #[.string kx0,.string tx0,.int .i64 fx0,.int .i64 ex0,.slice ax0 nx0 cx0] 25)=V:=⟨_,rfl⟩
     have hb10:Below w10.heap.size w10 V10:=by rw [← hV10];exact (Below.refl _ w10).alloc (Nat.le_refl _) _
     have HBx0:Hid (V10.heap[qx0]?=some (.cells #[.string kx0,.string tx0,.int .i64 fx0,.int .i64 ex0,.slice ax0 nx0 cx0] 25 (0,0))):=hid (by rw [← hV10,← hqx0];exact heap_alloc_new w10 _);have HSx0:Hid (Mv w10.heap.size d w10 V10):=hid (Mv.of_below hb10);have HLx0:Hid (W1.heap.size≤w4.heap.size∧w4.heap.size≤w10.heap.size∧qx0=w10.heap.size):=hid ⟨HM9.out.size,HWx0.out.2.size,hqx0.symm⟩;rw [hV10,hqx0];have HM10:=hid ((HM9.out.trans (HWx0.out.2.mono HM9.out.size)).trans ((Mv.of_below hb10).mono (Nat.le_trans HM9.out.size HWx0.out.2.size)));have HR10:=hid (HWx0.out.1.below hb10)
     skip
     clear hV10 hb10 hqx0;have HDx0_10:Hid (Mv V10.heap.size d V10 V10):=hid (Mv.refl _ _ _);have HLP1:=hid (((HLP4.out).mv (HWx0.out.2) (by have:=HM1.out.size;omega)).mv HSx0.out (by have:=HM1.out.size;omega));have HLR1:=hid (((HLr.out).mv (HWx0.out.2) (by have:=HM1.out.size;omega)).mv HSx0.out (by have:=HM1.out.size;omega));have HBV:Hid (V10.drew.heap[qx0]?=some (.cells #[.string kx0,.string tx0,.int .i64 fx0,.int .i64 ex0,.slice ax0 nx0 cx0] 25 (0,0))):=hid HBx0.out;have HLPV:Hid (ListV W1.heap.size OL (.slice la nn lc) nn xs V10.drew):=hid (HLP1.out.mv ((Mv.refl _ d _).drewN 1) (by have:=HM1.out.size;omega));have HLRV:Hid (ListV W1.heap.size oR (.slice none 0 0) 0 [] V10.drew):=hid (HLR1.out.mv ((Mv.refl _ d _).drewN 1) (by have:=HM1.out.size;omega));have HMV:Hid (Mv W1.heap.size d W1 V10.drew):=hid (HM10.out.drewN 1);have HRV:Hid (Rd d lv ob.at ob.isBad V10.drew):=hid HR10.out;have HSV:Hid (Mv w10.heap.size d w10 V10.drew):=hid (HSx0.out.drewN 1);refine wp_region_held_drew (S:=fun X=>X.heap[qx0]?=some (.cells #[.string kx0,.string tx0,.int .i64 fx0,.int .i64 ex0,.slice ax0 nx0 cx0] 25 (0,0))) (by kernel_rfl) HBV.out (fun hHeld=>?_);obtain ⟨V,hV⟩:∃ V,V10.drew=V:=⟨_,rfl⟩;rw [hV] at hHeld HBV HLPV HLRV HMV HRV HSV ⊢;clear hV;refine wpAnyH_take (i:=0) (oi:=OP.p70) (v:=.pointer (some ⟨d,0,none⟩)) rfl (by kernel_rfl) (by kernel_rfl) (by kernel_rfl) (fun _ _ _ h=>h) (Or.inl ⟨by rfl,fun X hX=>rfl⟩) hHeld ?_
     (try simp only [Act.put,OP.a,OP.b,OP.c])
     refine wpAnyH_take (i:=1) (oi:=OP.p71) (v:=.string sv) rfl (by kernel_rfl) (by kernel_rfl) (by kernel_rfl) (fun _ _ _ h=>h) (Or.inl ⟨by rfl,fun X hX=>rfl⟩) hHeld ?_
     (try simp only [Act.put,OP.a,OP.b,OP.c])
     refine wpAnyH_take (i:=2) (oi:=OP.p72) (v:=.int .i64 fr) rfl (by kernel_rfl) (by kernel_rfl) (by kernel_rfl) (fun _ _ _ h=>h) (Or.inl ⟨by rfl,fun X hX=>rfl⟩) hHeld ?_
     (try simp only [Act.put,OP.a,OP.b,OP.c])
     refine wpAnyH_take (i:=3) (oi:=OP.p73) (v:=.slice la nn lc) rfl (by kernel_rfl) (by kernel_rfl) (by kernel_rfl) (fun _ _ _ h=>h) (Or.inl ⟨by rfl,fun X hX=>rfl⟩) hHeld ?_
     (try simp only [Act.put,OP.a,OP.b,OP.c])
     refine wpAnyH_take (i:=5) (oi:=OP.p74) (v:=.slice none 0 0) rfl (by kernel_rfl) (by kernel_rfl) (by kernel_rfl) (fun _ _ _ h=>h) (Or.inl ⟨by rfl,fun X hX=>rfl⟩) hHeld ?_
     (try simp only [Act.put,OP.a,OP.b,OP.c])
     refine wpAnyH_take (i:=7) (oi:=OP.p75) (v:=.agg #[.string kx0,.string tx0,.int .i64 fx0,.int .i64 ex0,.slice ax0 nx0 cx0]) rfl (by kernel_rfl) (by kernel_rfl) (by kernel_rfl) (fun _ _ _ h=>h) (Or.inl ⟨by rfl,fun X hX=>by obtain ⟨q0,q1,q2,q3,q4⟩:=(five_cells hX).1;go_simp⟩) hHeld ?_
     (try simp only [Act.put,OP.a,OP.b,OP.c])
     have cA:=all_fn ⟨#[112,97,114,97,109,115]⟩ nn xs la lc V HLPV.out.own HLPV.out.fives HCP.out;obtain ⟨F1,hF1⟩:∃ u,firstF nn xs=u:=⟨_,rfl⟩;obtain ⟨E1,hE1⟩:∃ u,lastE nn xs=u:=⟨_,rfl⟩;rw [hF1,hE1] at cA;have HF1:=hid hF1;have HE1:=hid hE1;clear hF1 hE1;refine wpAnyH_ready (rs:=[4]) (by kernel_rfl) (by simp) ?_;refine (AllReadyH.cons (o:=OP.p76) rfl (fun K hK=>?_) AllReadyH.nil);refine wanted_step (by kernel_rfl) ?_
     go_simp
     go_at_call 53
     refine cA.mono ?_;rintro x wA ⟨rfl,hbA⟩;have hHeldA:wA.heap[qx0]?=some (.cells #[.string kx0,.string tx0,.int .i64 fx0,.int .i64 ex0,.slice ax0 nx0 cx0] 25 (0,0)):=(hbA.block _ (Array.getElem?_eq_some_iff.1 hHeld).1).trans hHeld;have HBA:=hid hbA;have HLRA:=hid (HLRV.out.mv (Mv.of_below (d:=d) hbA) (by have:=HM1.out.size;omega));clear cA hbA;dsimp only;refine hK.out _ _ (hHeldA) (fun hHeld2=>?_)
     (try simp only [Act.put,OP.a,OP.b,OP.c])
     clear hK K;have cB:=all_fn ⟨#[114,101,115,117,108,116]⟩ 0 [] none 0 wA HLRA.out.own HLRA.out.fives HCR.out;obtain ⟨F2,hF2⟩:∃ u,firstF 0 []=u:=⟨_,rfl⟩;obtain ⟨E2,hE2⟩:∃ u,lastE 0 []=u:=⟨_,rfl⟩;rw [hF2,hE2] at cB;have HF2:=hid hF2;have HE2:=hid hE2;clear hF2 hE2;refine wpAnyH_ready (rs:=[6]) (by kernel_rfl) (by simp) ?_;refine (AllReadyH.cons (o:=OP.p77) rfl (fun K hK=>?_) AllReadyH.nil);refine wanted_step (by kernel_rfl) ?_
     go_simp
     go_at_call 53
     refine cB.mono ?_;rintro x wB ⟨rfl,hbB⟩;have hHeldB:wB.heap[qx0]?=some (.cells #[.string kx0,.string tx0,.int .i64 fx0,.int .i64 ex0,.slice ax0 nx0 cx0] 25 (0,0)):=(hbB.block _ (Array.getElem?_eq_some_iff.1 hHeld2).1).trans hHeld2;have HBB:=hid (HBA.out.trans (hbB.mono HBA.out.size));clear cB hbB;dsimp only;refine hK.out _ _ (hHeldB) (fun hHeld3=>?_)
     (try simp only [Act.put,OP.a,OP.b,OP.c])
     clear hK K;obtain ⟨z,hz⟩:∃ z,wB.heap.size=z:=⟨_,rfl⟩;obtain ⟨Z,hZ⟩:∃ Z,wB.alloc (.cells #[.string ⟨#[112,97,114,97,109,115]⟩,.string ⟨#[]⟩,.int .i64 F1,.int .i64 E1,.slice la nn lc,.string ⟨#[114,101,115,117,108,116]⟩,.string ⟨#[]⟩,.int .i64 F2,.int .i64 E2,.slice none 0 0,.string kx0,.string tx0,.int .i64 fx0,.int .i64 ex0,.slice ax0 nx0 cx0] 25)=Z:=⟨_,rfl⟩
     have hbz:Below wB.heap.size wB Z:=by rw [← hZ];exact (Below.refl _ wB).alloc (Nat.le_refl _) _
     have hrz:Z.heap[z]?=some (.cells #[.string ⟨#[112,97,114,97,109,115]⟩,.string ⟨#[]⟩,.int .i64 F1,.int .i64 E1,.slice la nn lc,.string ⟨#[114,101,115,117,108,116]⟩,.string ⟨#[]⟩,.int .i64 F2,.int .i64 E2,.slice none 0 0,.string kx0,.string tx0,.int .i64 fx0,.int .i64 ex0,.slice ax0 nx0 cx0] 25 (0,0)):=by rw [← hZ,← hz];exact heap_alloc_new wB _
     have hHeldZ:Z.heap[qx0]?=some (.cells #[.string kx0,.string tx0,.int .i64 fx0,.int .i64 ex0,.slice ax0 nx0 cx0] 25 (0,0)):=(hbz.block _ (Array.getElem?_eq_some_iff.1 hHeld3).1).trans hHeld3;have HBZ:Hid (Below V.heap.size V Z):=hid (HBB.out.trans (hbz.mono HBB.out.size));have HMZ:Hid (Mv W1.heap.size d W1 Z):=hid (HMV.out.trans ((Mv.of_below HBZ.out).mono HMV.out.size));have HRZ:=hid hrz;have HZE:Hid (z=wB.heap.size∧V.heap.size≤wB.heap.size∧z<Z.heap.size):=hid ⟨hz.symm,HBB.out.size,(Array.getElem?_eq_some_iff.1 hrz).1⟩;have cP:=part_any d L lv ob.at ob.isBad ⟨#[102,117,110,99]⟩ sv fr (some ⟨z,0,none⟩) 3 3 Z (HRV.out.below HBZ.out) (HT1.out.mv HMZ.out (Nat.le_refl _)) HFob.out.le hL;obtain ⟨ez,hez⟩:∃ u,toT L ob.at=u:=⟨_,rfl⟩;rw [hez] at cP;have HEZ:=hid hez;clear hez hbz hrz;refine wpAnyH_ready (rs:=[8]) (by kernel_rfl) (by simp) ?_;refine (AllReadyH.cons (o:=OP.p78) rfl (fun K hK=>?_) AllReadyH.nil);refine wanted_step (by kernel_rfl) ?_
     go_simp
     try rw [hZ]
     try rw [hz]
     clear hZ hz;refine hK.out _ _ (hHeldZ) (fun hHeld4=>?_)
     (try simp only [Act.put,OP.a,OP.b,OP.c])
     clear hK K;refine wpAnyH_ready (rs:=[9]) (by kernel_rfl) (by simp) ?_;refine (AllReadyH.cons (o:=OP.p79) rfl (fun K hK=>?_) AllReadyH.nil);refine wanted_step (by kernel_rfl) ?_
     go_simp
     go_at_call 52
     refine cP.mono ?_;rintro x wP ⟨rfl,hwP⟩;have hHeldP:wP.heap[qx0]?=some (.cells #[.string kx0,.string tx0,.int .i64 fx0,.int .i64 ex0,.slice ax0 nx0 cx0] 25 (0,0)):=(hwP.2.block _ (Array.getElem?_eq_some_iff.1 hHeld4).1 (by have:=HLx0.out;have:=HM1.out.size;omega)).trans hHeld4;have HMP:=hid (HMZ.out.trans (hwP.2.mono HMZ.out.size));have HWP:=hid hwP;clear cP hwP;dsimp only;refine hK.out _ _ (hHeldP) (fun hHeld5=>?_)
     (try simp only [Act.put,OP.a,OP.b,OP.c])
     clear hK K;have hq8:wP.heap[w.heap.size]?=_:=(HMP.out.block w.heap.size (Array.getElem?_eq_some_iff.1 HQ1.out).1 (by omega)).trans HQ1.out;obtain ⟨⟨r0,r1,r2,r3,r4⟩,gz⟩:=five_cells hq8;have g0:=gz 0;have g1:=gz 1;have g2:=gz 2;have g3:=gz 3;have g4:=gz 4;obtain ⟨WF,hWF,hFq,hFo,-⟩:=put_five (a':=.string ⟨#[102,117,110,99]⟩) (b':=.string sv) (c':=.int .i64 fr) (e':=.int .i64 ez) (f':=.slice (some ⟨z,0,none⟩) 3 3) hq8;have hqw1:=(Array.getElem?_eq_some_iff.1 HQ1.out).1;have hHeldF:WF.heap[qx0]?=some (.cells #[.string kx0,.string tx0,.int .i64 fx0,.int .i64 ex0,.slice ax0 nx0 cx0] 25 (0,0)):=(hFo qx0 (by have:=HLx0.out;omega)).trans hHeld5;have HFQ:=hid hFq;have HWF:=hid hWF;clear gz hq8 hFq hFo hqw1;refine wpAnyH_ready (rs:=[10]) (by kernel_rfl) (by simp) ?_;refine (AllReadyH.cons (o:=OP.p80) rfl (fun K hK=>?_) AllReadyH.nil);refine wanted_step (by kernel_rfl) ?_
     go_simp
     refine hK.out _ _ (hHeldF) (fun hHeld6=>?_)
     (try simp only [Act.put,OP.a,OP.b,OP.c])
     clear hK K;clear r0 r1 r2 r3 r4 g0 g1 g2 g3 g4 hWF hHeld hHeld2 hHeld3 hHeld4 hHeld5 hHeld6 hHeldA hHeldB hHeldZ hHeldP hHeldF;refine wpAnyH_done (by kernel_rfl) ?_ _
     go_wp2_with fail
     refine bodyPost_ret (v:=.agg #[.string ⟨#[102,117,110,99]⟩,.string sv,.int .i64 fr,.int .i64 ez,.slice (some ⟨z,0,none⟩) 3 3]) (results_cell_row rfl _ _ w.heap.size 25 #[.string ⟨#[102,117,110,99]⟩,.string sv,.int .i64 fr,.int .i64 ez,.slice (some ⟨z,0,none⟩) 3 3] (0,0) _ (by rfl) HFQ.out Tryz.underlying25 rfl (by kernel_rfl)) rfl ?_;rw [← HQ.out,← HWF.out];refine reads_end hd (HM1.out.trans (HMP.out.mono HM1.out.size)) HWP.out.1 HAT.out.1 HAT.out.2 ?_ ⟨Nat.le_refl _,Nat.le_refl _⟩;have hsz:=HM1.out.size;have hqq:=(Array.getElem?_eq_some_iff.1 HQ1.out).1;have hze:=HZE.out;have hmv:=HMV.out.size;have hz7:wP.heap[z]?=_:=(HWP.out.2.block z hze.2.2 (by omega)).trans HRZ.out;refine partV_row hz7 (by omega) (fun p j hpj=>?_) (by omega) (Nat.le_refl _);obtain ⟨hp,hn8,hP,hRR,hB⟩:=HPL.out p j hpj;refine ⟨kFunc,nm.by',_,by rw [← HEZ.out];exact hp,rfl,hn8,rfl,?_⟩;have hLP:=(HLPV.out.mv (Mv.of_below (d:=d) HBZ.out) (by omega)).mv HWP.out.2 (by omega);have hLR:=(HLRV.out.mv (Mv.of_below (d:=d) HBZ.out) (by omega)).mv HWP.out.2 (by omega);have kP:=hLP.kids hP (R:=fun g=>w.heap.size<g) (fun g hg=>by omega) kParams [] F1 E1;have kR:=hLR.kids hRR (R:=fun g=>w.heap.size<g) (fun g hg=>by omega) kResult [] F2 E2;have mP:=allP_mk (hLP.parts _ _ hP).2 (hLP.parts _ _ hP).1 kParams;have mR:=allP_mk (hLR.parts _ _ hRR).2 (hLR.parts _ _ hRR).1 kResult;rw [HF1.out,HE1.out] at mP;rw [HF2.out,HE2.out] at mR;obtain ⟨u1,u2⟩:=HVx0.out ob.pt ob.at hB
     have sB:Mv w10.heap.size d w10 wP:=HSV.out.trans (((Mv.of_below HBZ.out).mono HSV.out.size).trans (HWP.out.2.mono (by have:=HSV.out.size;have:=HBZ.out.size;omega)));have kB:=u2.later (R':=fun g=>w.heap.size<g) (sB.still (Nat.le_refl _) (fun g hg=>by have:=HLx0.out;omega)) (fun g hg=>by have:=HLx0.out;omega);rw [mP,mR]
     show PartsIn wP _ _ (([.string ⟨#[112,97,114,97,109,115]⟩,.string ⟨#[]⟩,.int .i64 F1,.int .i64 E1,.slice la nn lc]:List Value)++(([.string ⟨#[114,101,115,117,108,116]⟩,.string ⟨#[]⟩,.int .i64 F2,.int .i64 E2,.slice none 0 0]:List Value)++(([.string kx0,.string tx0,.int .i64 fx0,.int .i64 ex0,.slice ax0 nx0 cx0]:List Value)++[])))
     rw [five_of u1]
     exact ⟨_,_,rfl,kP,_,_,rfl,kR,_,_,rfl,kB,rfl⟩
  ·have hox:OL=o:=HIN.out.out
   subst hox;have HCP:Hid (nn≤1000000):=hid (by have h1:=HIN.out.cnt;have h2:=HIN.out.le;split at h1 <;> omega);have HRp:Hid (Rd d lv OL.at OL.isBad wr):=hid HIN.out.rd;have ci:=is_any d L lv OL.at OL.isBad [123] wr HRp.out (HT1.out.mv HIN.out.mv (Nat.le_refl _));rw [show bstr [123]=⟨#[123]⟩ from rfl] at ci;obtain ⟨R5,hR5⟩:∃ R,(!OL.isBad&&isT L [123] OL.at)=R:=⟨_,rfl⟩;rw [hR5] at ci;have H5:=hid hR5;clear hR5
   cases R5
   ·go_wp2_with fail
    refine ci.mono ?_;intro x w4 h4;obtain ⟨rfl,hw4⟩:=h4.went HRp.out;have HMr:=hid (HIN.out.mv.trans (hw4.2.mono HIN.out.mv.size));have HRr:=hid hw4.1;have HTr:=hid (HT1.out.mv HMr.out (Nat.le_refl _));have HLP4:=hid (HIN.out.list.mv hw4.2 (by have:=HM1.out.size;omega));have HLr:Hid (ListV W1.heap.size (Out.ok [] 0) (.slice none 0 0) 0 [] w4):=hid (ListV.nil _ _ _);obtain ⟨oo,hoo⟩:∃ u,start OL.isBad OL.at (typed L n OL.at)=u:=⟨_,rfl⟩
    have HE4:Hid (oR=oo.next fun x q=>.ok [x] q):=hid (by
     rw [← HoR.out,← hoo];have h:=H5.out
     cases hb:OL.isBad
     ·rw [hb] at h
      have h:isT L [123] OL.at=false:=h;rw [start_false,start_false,if_neg (by rw [h];decide)]
     ·rfl)
    have HE5:Hid (oR.at=oo.at∧oR.isBad=oo.isBad):=hid (by rw [HE4.out];cases oo <;> exact ⟨rfl,rfl⟩);have Hoo:=hid hoo;clear ci h4 hw4 hoo;have cb:=typed_any d L lv hL n OL.at OL.isBad w4 HRr.out HTr.out HFOL.out.le (fun h=>by have h3:=HN.out (HFOL.out.so h);have h5:=HFOL.out.ge;omega);rw [Hoo.out] at cb
    go_wp2_with fail
    refine cb.mono ?_;rintro x v5 ⟨v,rfl,⟨kb,tb,fb,eb,ab,nb,cb',rfl,hnb,hvb⟩,hw5⟩;have hLx:ListV W1.heap.size (Out.ok [] 0) (.slice none 0 0) 0 [] (v5.alloc (.cells #[.string kb,.string tb,.int .i64 fb,.int .i64 eb,.slice ab nb cb'] 25)):=(HLr.out.mv hw5.2 (by have:=HM1.out.size;omega)).mv (Mv.of_below (d:=d) ((Below.refl _ v5).alloc (Nat.le_refl _) _)) (by have:=HM1.out.size;omega);have hbx:Below v5.heap.size v5 (v5.alloc (.cells #[.string kb,.string tb,.int .i64 fb,.int .i64 eb,.slice ab nb cb'] 25)):=(Below.refl _ v5).alloc (Nat.le_refl _) _
    have hsx:W1.heap.size≤(v5.alloc (.cells #[.string kb,.string tb,.int .i64 fb,.int .i64 eb,.slice ab nb cb'] 25)).heap.size:=by have:=hw5.2.size;have:=HMr.out.size;have:=hbx.size;omega
    have HVB:=hid hvb;have HW5:=hid hw5;have HLx:=hid hLx;have HBx:=hid hbx;clear cb hvb hw5 hLx hbx hnb
    go_wp2_with (at_builtin;refine wpList_append_own_at _ rfl _ _ 23 rfl W1.heap.size 25 iP _ 5 72 Tryz.underlying23 hi0 hz0 hz1 hz2 rfl (by decide) _ 0 [] rfl HLx.out.own ⟨v5.heap.size,0,none⟩ 1 1 [.string kb,.string tb,.int .i64 fb,.int .i64 eb,.slice ab nb cb'] rfl rfl (row_news (heap_alloc_new v5 _)) one_part (by unfold maxLen;omega) (by omega) hsx ?_)
    intro v' w7 hown hgrow _ hrow0
    have hrow:v'.ownBlock=(Value.slice none 0 0).ownBlock∨v'.ownBlock=some (v5.alloc (.cells #[.string kb,.string tb,.int .i64 fb,.int .i64 eb,.slice ab nb cb'] 25)).heap.size:=by simpa using hrow0
    clear hrow0
    have hown1:∀ k,(Value.slice none 0 0).ownBlock=some k→W1.heap.size≤k:=fun k hk=>(HLx.out.own.lt k hk).1
    have hd1:d<W1.heap.size:=by have:=HM1.out.size;omega
    have HR7:Hid (Rd d lv oo.at oo.isBad w7):=hid (by
     have h:=HW5.out.1.below HBx.out
     exact (hgrow.block d h.lt (fun h'=>by have:=hown1 d h'.symm;omega)).trans h)
    have HM7:Hid (Mv W1.heap.size d W1 w7):=hid (HMr.out.trans ((HW5.out.2.mono HMr.out.size).trans (((Mv.of_below HBx.out).mono (by have:=HW5.out.2.size;have:=HMr.out.size;omega)).trans ⟨hgrow.os,hgrow.tape,hgrow.output,hgrow.size,fun k hk _=>hgrow.block k (by omega) (fun h'=>by have:=hown1 k h'.symm;omega)⟩)))
    have HL7:Hid (ListV W1.heap.size oR v' (0+1) ([]++[.string kb,.string tb,.int .i64 fb,.int .i64 eb,.slice ab nb cb']) w7):=hid (HLx.out.snoc HLr.out (Nat.le_refl _) HMr.out.size HVB.out HBx.out hown hgrow hrow (fun l j hl=>by
    rw [HE4.out] at hl
    cases oo with
    | bad k=>cases hl
    | ok o k =>
     cases hl
     exact ⟨[],0,o,_,rfl,rfl,rfl⟩))
    obtain ⟨ra,rc,hv'⟩:=HL7.out.form;subst hv';have HLP7:=hid (HLP4.out.mv HW5.out.2 hd1);have HLP7x:=hid (HLP7.out.mv (Mv.of_below (d:=d) HBx.out) hd1);have HLP8:Hid (ListV W1.heap.size OL (.slice la nn lc) nn xs w7):=hid (HLP7x.out.mv ⟨hgrow.os,hgrow.tape,hgrow.output,hgrow.size,fun k hk _=>hgrow.block k hk (fun h'=>by cases h')⟩ hd1);have HR9:Hid (Rd d lv oR.at oR.isBad w7):=hid (by rw [HE5.out.1,HE5.out.2];exact HR7.out);have HM9:=HM7;have HCR:Hid (0+1≤1000000):=hid (by omega);clear hown hgrow hrow hown1 hd1 hsx;have c10:=block_any d L lv hL n oR.at oR.isBad w7 HR9.out (HT1.out.mv HM9.out (Nat.le_refl _)) HFoR.out.le (fun h=>by have h3:=HN.out (HSoR.out h);have h5:=HFoR.out.ge;omega);rw [Hob.out] at c10
    go_wp2_with fail
    refine c10.mono ?_;rintro x w10 ⟨v,rfl,⟨kx0,tx0,fx0,ex0,ax0,nx0,cx0,rfl,hnnx0,hvx0⟩,hw10⟩;have HVx0:=hid hvx0;have HNNx0:=hid hnnx0;clear hnnx0;have HWx0:=hid hw10;clear c10 hvx0 hw10
    go_upto_region 16 with fail
    obtain ⟨qx0,hqx0⟩:∃ q,w10.heap.size=q:=⟨_,rfl⟩;obtain ⟨V10,hV10⟩:∃ V,w10.alloc (.cells #[.string kx0,.string tx0,.int .i64 fx0,.int .i64 ex0,.slice ax0 nx0 cx0] 25)=V:=⟨_,rfl⟩
    have hb10:Below w10.heap.size w10 V10:=by rw [← hV10];exact (Below.refl _ w10).alloc (Nat.le_refl _) _
    have HBx0:Hid (V10.heap[qx0]?=some (.cells #[.string kx0,.string tx0,.int .i64 fx0,.int .i64 ex0,.slice ax0 nx0 cx0] 25 (0,0))):=hid (by rw [← hV10,← hqx0];exact heap_alloc_new w10 _);have HSx0:Hid (Mv w10.heap.size d w10 V10):=hid (Mv.of_below hb10);have HLx0:Hid (W1.heap.size≤w7.heap.size∧w7.heap.size≤w10.heap.size∧qx0=w10.heap.size):=hid ⟨HM9.out.size,HWx0.out.2.size,hqx0.symm⟩;rw [hV10,hqx0];have HM10:=hid ((HM9.out.trans (HWx0.out.2.mono HM9.out.size)).trans ((Mv.of_below hb10).mono (Nat.le_trans HM9.out.size HWx0.out.2.size)));have HR10:=hid (HWx0.out.1.below hb10)
    skip
    clear hV10 hb10 hqx0;have HDx0_10:Hid (Mv V10.heap.size d V10 V10):=hid (Mv.refl _ _ _);have HLP1:=hid (((HLP8.out).mv (HWx0.out.2) (by have:=HM1.out.size;omega)).mv HSx0.out (by have:=HM1.out.size;omega));have HLR1:=hid (((HL7.out).mv (HWx0.out.2) (by have:=HM1.out.size;omega)).mv HSx0.out (by have:=HM1.out.size;omega));have HBV:Hid (V10.drew.heap[qx0]?=some (.cells #[.string kx0,.string tx0,.int .i64 fx0,.int .i64 ex0,.slice ax0 nx0 cx0] 25 (0,0))):=hid HBx0.out;have HLPV:Hid (ListV W1.heap.size OL (.slice la nn lc) nn xs V10.drew):=hid (HLP1.out.mv ((Mv.refl _ d _).drewN 1) (by have:=HM1.out.size;omega));have HLRV:Hid (ListV W1.heap.size oR (.slice ra (0+1) rc) (0+1) ([]++[.string kb,.string tb,.int .i64 fb,.int .i64 eb,.slice ab nb cb']) V10.drew):=hid (HLR1.out.mv ((Mv.refl _ d _).drewN 1) (by have:=HM1.out.size;omega));have HMV:Hid (Mv W1.heap.size d W1 V10.drew):=hid (HM10.out.drewN 1);have HRV:Hid (Rd d lv ob.at ob.isBad V10.drew):=hid HR10.out;have HSV:Hid (Mv w10.heap.size d w10 V10.drew):=hid (HSx0.out.drewN 1);refine wp_region_held_drew (S:=fun X=>X.heap[qx0]?=some (.cells #[.string kx0,.string tx0,.int .i64 fx0,.int .i64 ex0,.slice ax0 nx0 cx0] 25 (0,0))) (by kernel_rfl) HBV.out (fun hHeld=>?_);obtain ⟨V,hV⟩:∃ V,V10.drew=V:=⟨_,rfl⟩;rw [hV] at hHeld HBV HLPV HLRV HMV HRV HSV ⊢;clear hV
    refine wpAnyH_take (i:=0) (oi:=OP.p70) (v:=.pointer (some ⟨d,0,none⟩)) rfl (by kernel_rfl) (by kernel_rfl) (by kernel_rfl) (fun _ _ _ h=>h) (Or.inl ⟨by rfl,fun X hX=>rfl⟩) hHeld ?_
    (try simp only [Act.put,OP.a,OP.b,OP.c])
    refine wpAnyH_take (i:=1) (oi:=OP.p71) (v:=.string sv) rfl (by kernel_rfl) (by kernel_rfl) (by kernel_rfl) (fun _ _ _ h=>h) (Or.inl ⟨by rfl,fun X hX=>rfl⟩) hHeld ?_
    (try simp only [Act.put,OP.a,OP.b,OP.c])
    refine wpAnyH_take (i:=2) (oi:=OP.p72) (v:=.int .i64 fr) rfl (by kernel_rfl) (by kernel_rfl) (by kernel_rfl) (fun _ _ _ h=>h) (Or.inl ⟨by rfl,fun X hX=>rfl⟩) hHeld ?_
    (try simp only [Act.put,OP.a,OP.b,OP.c])
    refine wpAnyH_take (i:=3) (oi:=OP.p73) (v:=.slice la nn lc) rfl (by kernel_rfl) (by kernel_rfl) (by kernel_rfl) (fun _ _ _ h=>h) (Or.inl ⟨by rfl,fun X hX=>rfl⟩) hHeld ?_
    (try simp only [Act.put,OP.a,OP.b,OP.c])
    refine wpAnyH_take (i:=5) (oi:=OP.p74) (v:=.slice ra (0+1) rc) rfl (by kernel_rfl) (by kernel_rfl) (by kernel_rfl) (fun _ _ _ h=>h) (Or.inl ⟨by rfl,fun X hX=>rfl⟩) hHeld ?_
    (try simp only [Act.put,OP.a,OP.b,OP.c])
    refine wpAnyH_take (i:=7) (oi:=OP.p75) (v:=.agg #[.string kx0,.string tx0,.int .i64 fx0,.int .i64 ex0,.slice ax0 nx0 cx0]) rfl (by kernel_rfl) (by kernel_rfl) (by kernel_rfl) (fun _ _ _ h=>h) (Or.inl ⟨by rfl,fun X hX=>by obtain ⟨q0,q1,q2,q3,q4⟩:=(five_cells hX).1;go_simp⟩) hHeld ?_
    (try simp only [Act.put,OP.a,OP.b,OP.c])
    have cA:=all_fn ⟨#[112,97,114,97,109,115]⟩ nn xs la lc V HLPV.out.own HLPV.out.fives HCP.out;obtain ⟨F1,hF1⟩:∃ u,firstF nn xs=u:=⟨_,rfl⟩;obtain ⟨E1,hE1⟩:∃ u,lastE nn xs=u:=⟨_,rfl⟩;rw [hF1,hE1] at cA;have HF1:=hid hF1;have HE1:=hid hE1;clear hF1 hE1;refine wpAnyH_ready (rs:=[4]) (by kernel_rfl) (by simp) ?_;refine (AllReadyH.cons (o:=OP.p76) rfl (fun K hK=>?_) AllReadyH.nil);refine wanted_step (by kernel_rfl) ?_
    go_simp
    go_at_call 53
    refine cA.mono ?_;rintro x wA ⟨rfl,hbA⟩;have hHeldA:wA.heap[qx0]?=some (.cells #[.string kx0,.string tx0,.int .i64 fx0,.int .i64 ex0,.slice ax0 nx0 cx0] 25 (0,0)):=(hbA.block _ (Array.getElem?_eq_some_iff.1 hHeld).1).trans hHeld;have HBA:=hid hbA;have HLRA:=hid (HLRV.out.mv (Mv.of_below (d:=d) hbA) (by have:=HM1.out.size;omega));clear cA hbA;dsimp only;refine hK.out _ _ (hHeldA) (fun hHeld2=>?_)
    (try simp only [Act.put,OP.a,OP.b,OP.c])
    clear hK K;have cB:=all_fn ⟨#[114,101,115,117,108,116]⟩ (0+1) ([]++[.string kb,.string tb,.int .i64 fb,.int .i64 eb,.slice ab nb cb']) ra rc wA HLRA.out.own HLRA.out.fives HCR.out;obtain ⟨F2,hF2⟩:∃ u,firstF (0+1) ([]++[.string kb,.string tb,.int .i64 fb,.int .i64 eb,.slice ab nb cb'])=u:=⟨_,rfl⟩;obtain ⟨E2,hE2⟩:∃ u,lastE (0+1) ([]++[.string kb,.string tb,.int .i64 fb,.int .i64 eb,.slice ab nb cb'])=u:=⟨_,rfl⟩;rw [hF2,hE2] at cB;have HF2:=hid hF2;have HE2:=hid hE2;clear hF2 hE2;refine wpAnyH_ready (rs:=[6]) (by kernel_rfl) (by simp) ?_;refine (AllReadyH.cons (o:=OP.p77) rfl (fun K hK=>?_) AllReadyH.nil);refine wanted_step (by kernel_rfl) ?_
    go_simp
    go_at_call 53
    refine cB.mono ?_;rintro x wB ⟨rfl,hbB⟩;have hHeldB:wB.heap[qx0]?=some (.cells #[.string kx0,.string tx0,.int .i64 fx0,.int .i64 ex0,.slice ax0 nx0 cx0] 25 (0,0)):=(hbB.block _ (Array.getElem?_eq_some_iff.1 hHeld2).1).trans hHeld2;have HBB:=hid (HBA.out.trans (hbB.mono HBA.out.size));clear cB hbB;dsimp only;refine hK.out _ _ (hHeldB) (fun hHeld3=>?_)
    (try simp only [Act.put,OP.a,OP.b,OP.c])
    clear hK K;obtain ⟨z,hz⟩:∃ z,wB.heap.size=z:=⟨_,rfl⟩;obtain ⟨Z,hZ⟩:∃ Z,wB.alloc (.cells #[.string ⟨#[112,97,114,97,109,115]⟩,.string ⟨#[]⟩,.int .i64 F1,.int .i64 E1,.slice la nn lc,.string ⟨#[114,101,115,117,108,116]⟩,.string ⟨#[]⟩,.int .i64 F2,.int .i64 E2,.slice ra (0+1) rc,.string kx0,.string tx0,.int .i64 fx0,.int .i64 ex0,.slice ax0 nx0 cx0] 25)=Z:=⟨_,rfl⟩
    have hbz:Below wB.heap.size wB Z:=by rw [← hZ];exact (Below.refl _ wB).alloc (Nat.le_refl _) _
    have hrz:Z.heap[z]?=some (.cells #[.string ⟨#[112,97,114,97,109,115]⟩,.string ⟨#[]⟩,.int .i64 F1,.int .i64 E1,.slice la nn lc,.string ⟨#[114,101,115,117,108,116]⟩,.string ⟨#[]⟩,.int .i64 F2,.int .i64 E2,.slice ra (0+1) rc,.string kx0,.string tx0,.int .i64 fx0,.int .i64 ex0,.slice ax0 nx0 cx0] 25 (0,0)):=by rw [← hZ,← hz];exact heap_alloc_new wB _
    have hHeldZ:Z.heap[qx0]?=some (.cells #[.string kx0,.string tx0,.int .i64 fx0,.int .i64 ex0,.slice ax0 nx0 cx0] 25 (0,0)):=(hbz.block _ (Array.getElem?_eq_some_iff.1 hHeld3).1).trans hHeld3;have HBZ:Hid (Below V.heap.size V Z):=hid (HBB.out.trans (hbz.mono HBB.out.size));have HMZ:Hid (Mv W1.heap.size d W1 Z):=hid (HMV.out.trans ((Mv.of_below HBZ.out).mono HMV.out.size));have HRZ:=hid hrz;have HZE:Hid (z=wB.heap.size∧V.heap.size≤wB.heap.size∧z<Z.heap.size):=hid ⟨hz.symm,HBB.out.size,(Array.getElem?_eq_some_iff.1 hrz).1⟩;have cP:=part_any d L lv ob.at ob.isBad ⟨#[102,117,110,99]⟩ sv fr (some ⟨z,0,none⟩) 3 3 Z (HRV.out.below HBZ.out) (HT1.out.mv HMZ.out (Nat.le_refl _)) HFob.out.le hL;obtain ⟨ez,hez⟩:∃ u,toT L ob.at=u:=⟨_,rfl⟩;rw [hez] at cP;have HEZ:=hid hez;clear hez hbz hrz;refine wpAnyH_ready (rs:=[8]) (by kernel_rfl) (by simp) ?_;refine (AllReadyH.cons (o:=OP.p78) rfl (fun K hK=>?_) AllReadyH.nil);refine wanted_step (by kernel_rfl) ?_
    go_simp
    try rw [hZ]
    try rw [hz]
    clear hZ hz;refine hK.out _ _ (hHeldZ) (fun hHeld4=>?_)
    (try simp only [Act.put,OP.a,OP.b,OP.c])
    clear hK K;refine wpAnyH_ready (rs:=[9]) (by kernel_rfl) (by simp) ?_;refine (AllReadyH.cons (o:=OP.p79) rfl (fun K hK=>?_) AllReadyH.nil);refine wanted_step (by kernel_rfl) ?_
    go_simp
    go_at_call 52
    refine cP.mono ?_;rintro x wP ⟨rfl,hwP⟩;have hHeldP:wP.heap[qx0]?=some (.cells #[.string kx0,.string tx0,.int .i64 fx0,.int .i64 ex0,.slice ax0 nx0 cx0] 25 (0,0)):=(hwP.2.block _ (Array.getElem?_eq_some_iff.1 hHeld4).1 (by have:=HLx0.out;have:=HM1.out.size;omega)).trans hHeld4;have HMP:=hid (HMZ.out.trans (hwP.2.mono HMZ.out.size));have HWP:=hid hwP;clear cP hwP;dsimp only;refine hK.out _ _ (hHeldP) (fun hHeld5=>?_)
    (try simp only [Act.put,OP.a,OP.b,OP.c])
    clear hK K;have hq8:wP.heap[w.heap.size]?=_:=(HMP.out.block w.heap.size (Array.getElem?_eq_some_iff.1 HQ1.out).1 (by omega)).trans HQ1.out;obtain ⟨⟨r0,r1,r2,r3,r4⟩,gz⟩:=five_cells hq8;have g0:=gz 0;have g1:=gz 1;have g2:=gz 2;have g3:=gz 3;have g4:=gz 4;obtain ⟨WF,hWF,hFq,hFo,-⟩:=put_five (a':=.string ⟨#[102,117,110,99]⟩) (b':=.string sv) (c':=.int .i64 fr) (e':=.int .i64 ez) (f':=.slice (some ⟨z,0,none⟩) 3 3) hq8;have hqw1:=(Array.getElem?_eq_some_iff.1 HQ1.out).1;have hHeldF:WF.heap[qx0]?=some (.cells #[.string kx0,.string tx0,.int .i64 fx0,.int .i64 ex0,.slice ax0 nx0 cx0] 25 (0,0)):=(hFo qx0 (by have:=HLx0.out;omega)).trans hHeld5;have HFQ:=hid hFq;have HWF:=hid hWF;clear gz hq8 hFq hFo hqw1;refine wpAnyH_ready (rs:=[10]) (by kernel_rfl) (by simp) ?_;refine (AllReadyH.cons (o:=OP.p80) rfl (fun K hK=>?_) AllReadyH.nil);refine wanted_step (by kernel_rfl) ?_
    go_simp
    refine hK.out _ _ (hHeldF) (fun hHeld6=>?_)
    (try simp only [Act.put,OP.a,OP.b,OP.c])
    clear hK K;clear r0 r1 r2 r3 r4 g0 g1 g2 g3 g4 hWF hHeld hHeld2 hHeld3 hHeld4 hHeld5 hHeld6 hHeldA hHeldB hHeldZ hHeldP hHeldF;refine wpAnyH_done (by kernel_rfl) ?_ _
    go_wp2_with fail
    refine bodyPost_ret (v:=.agg #[.string ⟨#[102,117,110,99]⟩,.string sv,.int .i64 fr,.int .i64 ez,.slice (some ⟨z,0,none⟩) 3 3]) (results_cell_row rfl _ _ w.heap.size 25 #[.string ⟨#[102,117,110,99]⟩,.string sv,.int .i64 fr,.int .i64 ez,.slice (some ⟨z,0,none⟩) 3 3] (0,0) _ (by rfl) HFQ.out Tryz.underlying25 rfl (by kernel_rfl)) rfl ?_;rw [← HQ.out,← HWF.out];refine reads_end hd (HM1.out.trans (HMP.out.mono HM1.out.size)) HWP.out.1 HAT.out.1 HAT.out.2 ?_ ⟨Nat.le_refl _,Nat.le_refl _⟩;have hsz:=HM1.out.size;have hqq:=(Array.getElem?_eq_some_iff.1 HQ1.out).1;have hze:=HZE.out;have hmv:=HMV.out.size;have hz7:wP.heap[z]?=_:=(HWP.out.2.block z hze.2.2 (by omega)).trans HRZ.out;refine partV_row hz7 (by omega) (fun p j hpj=>?_) (by omega) (Nat.le_refl _);obtain ⟨hp,hn8,hP,hRR,hB⟩:=HPL.out p j hpj;refine ⟨kFunc,nm.by',_,by rw [← HEZ.out];exact hp,rfl,hn8,rfl,?_⟩;have hLP:=(HLPV.out.mv (Mv.of_below (d:=d) HBZ.out) (by omega)).mv HWP.out.2 (by omega);have hLR:=(HLRV.out.mv (Mv.of_below (d:=d) HBZ.out) (by omega)).mv HWP.out.2 (by omega);have kP:=hLP.kids hP (R:=fun g=>w.heap.size<g) (fun g hg=>by omega) kParams [] F1 E1;have kR:=hLR.kids hRR (R:=fun g=>w.heap.size<g) (fun g hg=>by omega) kResult [] F2 E2;have mP:=allP_mk (hLP.parts _ _ hP).2 (hLP.parts _ _ hP).1 kParams;have mR:=allP_mk (hLR.parts _ _ hRR).2 (hLR.parts _ _ hRR).1 kResult;rw [HF1.out,HE1.out] at mP;rw [HF2.out,HE2.out] at mR;obtain ⟨u1,u2⟩:=HVx0.out ob.pt ob.at hB
    have sB:Mv w10.heap.size d w10 wP:=HSV.out.trans (((Mv.of_below HBZ.out).mono HSV.out.size).trans (HWP.out.2.mono (by have:=HSV.out.size;have:=HBZ.out.size;omega)));have kB:=u2.later (R':=fun g=>w.heap.size<g) (sB.still (Nat.le_refl _) (fun g hg=>by have:=HLx0.out;omega)) (fun g hg=>by have:=HLx0.out;omega);rw [mP,mR]
    show PartsIn wP _ _ (([.string ⟨#[112,97,114,97,109,115]⟩,.string ⟨#[]⟩,.int .i64 F1,.int .i64 E1,.slice la nn lc]:List Value)++(([.string ⟨#[114,101,115,117,108,116]⟩,.string ⟨#[]⟩,.int .i64 F2,.int .i64 E2,.slice ra (0+1) rc]:List Value)++(([.string kx0,.string tx0,.int .i64 fx0,.int .i64 ex0,.slice ax0 nx0 cx0]:List Value)++[])))
    rw [five_of u1]
    exact ⟨_,_,rfl,kP,_,_,rfl,kR,_,_,rfl,kB,rfl⟩
   ·have hb5:OL.isBad=false∧isT L [123] OL.at=true:=by simpa using H5.out
    have HE4:Hid (oR=.ok [] OL.at):=hid (by rw [← HoR.out,hb5.1,start_false,if_pos hb5.2]);have HOB:=hid hb5.1;clear hb5
    go_wp2_with fail
    refine ci.mono ?_;intro x w4 h4;obtain ⟨rfl,hw4⟩:=h4.went HRp.out;have HM9:=hid (HIN.out.mv.trans (hw4.2.mono HIN.out.mv.size));have HR9:Hid (Rd d lv oR.at oR.isBad w4):=hid (by rw [HE4.out];have h:=hw4.1;rw [HOB.out] at h;exact h);have HLP4:=hid (HIN.out.list.mv hw4.2 (by have:=HM1.out.size;omega));have HLr:Hid (ListV W1.heap.size oR (.slice none 0 0) 0 [] w4):=hid (by rw [HE4.out];exact ListV.nil _ _ _);have HCR:Hid (0≤1000000):=hid (by omega);clear ci h4 hw4;have c10:=block_any d L lv hL n oR.at oR.isBad w4 HR9.out (HT1.out.mv HM9.out (Nat.le_refl _)) HFoR.out.le (fun h=>by have h3:=HN.out (HSoR.out h);have h5:=HFoR.out.ge;omega);rw [Hob.out] at c10
    go_wp2_with fail
    refine c10.mono ?_;rintro x w10 ⟨v,rfl,⟨kx0,tx0,fx0,ex0,ax0,nx0,cx0,rfl,hnnx0,hvx0⟩,hw10⟩;have HVx0:=hid hvx0;have HNNx0:=hid hnnx0;clear hnnx0;have HWx0:=hid hw10;clear c10 hvx0 hw10
    go_upto_region 16 with fail
    obtain ⟨qx0,hqx0⟩:∃ q,w10.heap.size=q:=⟨_,rfl⟩;obtain ⟨V10,hV10⟩:∃ V,w10.alloc (.cells #[.string kx0,.string tx0,.int .i64 fx0,.int .i64 ex0,.slice ax0 nx0 cx0] 25)=V:=⟨_,rfl⟩
    have hb10:Below w10.heap.size w10 V10:=by rw [← hV10];exact (Below.refl _ w10).alloc (Nat.le_refl _) _
    have HBx0:Hid (V10.heap[qx0]?=some (.cells #[.string kx0,.string tx0,.int .i64 fx0,.int .i64 ex0,.slice ax0 nx0 cx0] 25 (0,0))):=hid (by rw [← hV10,← hqx0];exact heap_alloc_new w10 _);have HSx0:Hid (Mv w10.heap.size d w10 V10):=hid (Mv.of_below hb10);have HLx0:Hid (W1.heap.size≤w4.heap.size∧w4.heap.size≤w10.heap.size∧qx0=w10.heap.size):=hid ⟨HM9.out.size,HWx0.out.2.size,hqx0.symm⟩;rw [hV10,hqx0];have HM10:=hid ((HM9.out.trans (HWx0.out.2.mono HM9.out.size)).trans ((Mv.of_below hb10).mono (Nat.le_trans HM9.out.size HWx0.out.2.size)));have HR10:=hid (HWx0.out.1.below hb10)
    skip
    clear hV10 hb10 hqx0;have HDx0_10:Hid (Mv V10.heap.size d V10 V10):=hid (Mv.refl _ _ _);have HLP1:=hid (((HLP4.out).mv (HWx0.out.2) (by have:=HM1.out.size;omega)).mv HSx0.out (by have:=HM1.out.size;omega));have HLR1:=hid (((HLr.out).mv (HWx0.out.2) (by have:=HM1.out.size;omega)).mv HSx0.out (by have:=HM1.out.size;omega));have HBV:Hid (V10.drew.heap[qx0]?=some (.cells #[.string kx0,.string tx0,.int .i64 fx0,.int .i64 ex0,.slice ax0 nx0 cx0] 25 (0,0))):=hid HBx0.out;have HLPV:Hid (ListV W1.heap.size OL (.slice la nn lc) nn xs V10.drew):=hid (HLP1.out.mv ((Mv.refl _ d _).drewN 1) (by have:=HM1.out.size;omega));have HLRV:Hid (ListV W1.heap.size oR (.slice none 0 0) 0 [] V10.drew):=hid (HLR1.out.mv ((Mv.refl _ d _).drewN 1) (by have:=HM1.out.size;omega));have HMV:Hid (Mv W1.heap.size d W1 V10.drew):=hid (HM10.out.drewN 1);have HRV:Hid (Rd d lv ob.at ob.isBad V10.drew):=hid HR10.out;have HSV:Hid (Mv w10.heap.size d w10 V10.drew):=hid (HSx0.out.drewN 1);refine wp_region_held_drew (S:=fun X=>X.heap[qx0]?=some (.cells #[.string kx0,.string tx0,.int .i64 fx0,.int .i64 ex0,.slice ax0 nx0 cx0] 25 (0,0))) (by kernel_rfl) HBV.out (fun hHeld=>?_);obtain ⟨V,hV⟩:∃ V,V10.drew=V:=⟨_,rfl⟩;rw [hV] at hHeld HBV HLPV HLRV HMV HRV HSV ⊢;clear hV;refine wpAnyH_take (i:=0) (oi:=OP.p70) (v:=.pointer (some ⟨d,0,none⟩)) rfl (by kernel_rfl) (by kernel_rfl) (by kernel_rfl) (fun _ _ _ h=>h) (Or.inl ⟨by rfl,fun X hX=>rfl⟩) hHeld ?_
    (try simp only [Act.put,OP.a,OP.b,OP.c])
    refine wpAnyH_take (i:=1) (oi:=OP.p71) (v:=.string sv) rfl (by kernel_rfl) (by kernel_rfl) (by kernel_rfl) (fun _ _ _ h=>h) (Or.inl ⟨by rfl,fun X hX=>rfl⟩) hHeld ?_
    (try simp only [Act.put,OP.a,OP.b,OP.c])
    refine wpAnyH_take (i:=2) (oi:=OP.p72) (v:=.int .i64 fr) rfl (by kernel_rfl) (by kernel_rfl) (by kernel_rfl) (fun _ _ _ h=>h) (Or.inl ⟨by rfl,fun X hX=>rfl⟩) hHeld ?_
    (try simp only [Act.put,OP.a,OP.b,OP.c])
    refine wpAnyH_take (i:=3) (oi:=OP.p73) (v:=.slice la nn lc) rfl (by kernel_rfl) (by kernel_rfl) (by kernel_rfl) (fun _ _ _ h=>h) (Or.inl ⟨by rfl,fun X hX=>rfl⟩) hHeld ?_
    (try simp only [Act.put,OP.a,OP.b,OP.c])
    refine wpAnyH_take (i:=5) (oi:=OP.p74) (v:=.slice none 0 0) rfl (by kernel_rfl) (by kernel_rfl) (by kernel_rfl) (fun _ _ _ h=>h) (Or.inl ⟨by rfl,fun X hX=>rfl⟩) hHeld ?_
    (try simp only [Act.put,OP.a,OP.b,OP.c])
    refine wpAnyH_take (i:=7) (oi:=OP.p75) (v:=.agg #[.string kx0,.string tx0,.int .i64 fx0,.int .i64 ex0,.slice ax0 nx0 cx0]) rfl (by kernel_rfl) (by kernel_rfl) (by kernel_rfl) (fun _ _ _ h=>h) (Or.inl ⟨by rfl,fun X hX=>by obtain ⟨q0,q1,q2,q3,q4⟩:=(five_cells hX).1;go_simp⟩) hHeld ?_
    (try simp only [Act.put,OP.a,OP.b,OP.c])
    have cA:=all_fn ⟨#[112,97,114,97,109,115]⟩ nn xs la lc V HLPV.out.own HLPV.out.fives HCP.out;obtain ⟨F1,hF1⟩:∃ u,firstF nn xs=u:=⟨_,rfl⟩;obtain ⟨E1,hE1⟩:∃ u,lastE nn xs=u:=⟨_,rfl⟩;rw [hF1,hE1] at cA;have HF1:=hid hF1;have HE1:=hid hE1;clear hF1 hE1;refine wpAnyH_ready (rs:=[4]) (by kernel_rfl) (by simp) ?_;refine (AllReadyH.cons (o:=OP.p76) rfl (fun K hK=>?_) AllReadyH.nil);refine wanted_step (by kernel_rfl) ?_
    go_simp
    go_at_call 53
    refine cA.mono ?_;rintro x wA ⟨rfl,hbA⟩;have hHeldA:wA.heap[qx0]?=some (.cells #[.string kx0,.string tx0,.int .i64 fx0,.int .i64 ex0,.slice ax0 nx0 cx0] 25 (0,0)):=(hbA.block _ (Array.getElem?_eq_some_iff.1 hHeld).1).trans hHeld;have HBA:=hid hbA;have HLRA:=hid (HLRV.out.mv (Mv.of_below (d:=d) hbA) (by have:=HM1.out.size;omega));clear cA hbA;dsimp only;refine hK.out _ _ (hHeldA) (fun hHeld2=>?_)
    (try simp only [Act.put,OP.a,OP.b,OP.c])
    clear hK K;have cB:=all_fn ⟨#[114,101,115,117,108,116]⟩ 0 [] none 0 wA HLRA.out.own HLRA.out.fives HCR.out;obtain ⟨F2,hF2⟩:∃ u,firstF 0 []=u:=⟨_,rfl⟩;obtain ⟨E2,hE2⟩:∃ u,lastE 0 []=u:=⟨_,rfl⟩;rw [hF2,hE2] at cB;have HF2:=hid hF2;have HE2:=hid hE2;clear hF2 hE2;refine wpAnyH_ready (rs:=[6]) (by kernel_rfl) (by simp) ?_;refine (AllReadyH.cons (o:=OP.p77) rfl (fun K hK=>?_) AllReadyH.nil);refine wanted_step (by kernel_rfl) ?_
    go_simp
    go_at_call 53
    refine cB.mono ?_;rintro x wB ⟨rfl,hbB⟩;have hHeldB:wB.heap[qx0]?=some (.cells #[.string kx0,.string tx0,.int .i64 fx0,.int .i64 ex0,.slice ax0 nx0 cx0] 25 (0,0)):=(hbB.block _ (Array.getElem?_eq_some_iff.1 hHeld2).1).trans hHeld2;have HBB:=hid (HBA.out.trans (hbB.mono HBA.out.size));clear cB hbB;dsimp only;refine hK.out _ _ (hHeldB) (fun hHeld3=>?_)
    (try simp only [Act.put,OP.a,OP.b,OP.c])
    clear hK K;obtain ⟨z,hz⟩:∃ z,wB.heap.size=z:=⟨_,rfl⟩;obtain ⟨Z,hZ⟩:∃ Z,wB.alloc (.cells #[.string ⟨#[112,97,114,97,109,115]⟩,.string ⟨#[]⟩,.int .i64 F1,.int .i64 E1,.slice la nn lc,.string ⟨#[114,101,115,117,108,116]⟩,.string ⟨#[]⟩,.int .i64 F2,.int .i64 E2,.slice none 0 0,.string kx0,.string tx0,.int .i64 fx0,.int .i64 ex0,.slice ax0 nx0 cx0] 25)=Z:=⟨_,rfl⟩
    have hbz:Below wB.heap.size wB Z:=by rw [← hZ];exact (Below.refl _ wB).alloc (Nat.le_refl _) _
    have hrz:Z.heap[z]?=some (.cells #[.string ⟨#[112,97,114,97,109,115]⟩,.string ⟨#[]⟩,.int .i64 F1,.int .i64 E1,.slice la nn lc,.string ⟨#[114,101,115,117,108,116]⟩,.string ⟨#[]⟩,.int .i64 F2,.int .i64 E2,.slice none 0 0,.string kx0,.string tx0,.int .i64 fx0,.int .i64 ex0,.slice ax0 nx0 cx0] 25 (0,0)):=by rw [← hZ,← hz];exact heap_alloc_new wB _
    have hHeldZ:Z.heap[qx0]?=some (.cells #[.string kx0,.string tx0,.int .i64 fx0,.int .i64 ex0,.slice ax0 nx0 cx0] 25 (0,0)):=(hbz.block _ (Array.getElem?_eq_some_iff.1 hHeld3).1).trans hHeld3;have HBZ:Hid (Below V.heap.size V Z):=hid (HBB.out.trans (hbz.mono HBB.out.size));have HMZ:Hid (Mv W1.heap.size d W1 Z):=hid (HMV.out.trans ((Mv.of_below HBZ.out).mono HMV.out.size));have HRZ:=hid hrz;have HZE:Hid (z=wB.heap.size∧V.heap.size≤wB.heap.size∧z<Z.heap.size):=hid ⟨hz.symm,HBB.out.size,(Array.getElem?_eq_some_iff.1 hrz).1⟩;have cP:=part_any d L lv ob.at ob.isBad ⟨#[102,117,110,99]⟩ sv fr (some ⟨z,0,none⟩) 3 3 Z (HRV.out.below HBZ.out) (HT1.out.mv HMZ.out (Nat.le_refl _)) HFob.out.le hL;obtain ⟨ez,hez⟩:∃ u,toT L ob.at=u:=⟨_,rfl⟩;rw [hez] at cP;have HEZ:=hid hez;clear hez hbz hrz;refine wpAnyH_ready (rs:=[8]) (by kernel_rfl) (by simp) ?_;refine (AllReadyH.cons (o:=OP.p78) rfl (fun K hK=>?_) AllReadyH.nil);refine wanted_step (by kernel_rfl) ?_
    go_simp
    try rw [hZ]
    try rw [hz]
    clear hZ hz;refine hK.out _ _ (hHeldZ) (fun hHeld4=>?_)
    (try simp only [Act.put,OP.a,OP.b,OP.c])
    clear hK K;refine wpAnyH_ready (rs:=[9]) (by kernel_rfl) (by simp) ?_;refine (AllReadyH.cons (o:=OP.p79) rfl (fun K hK=>?_) AllReadyH.nil);refine wanted_step (by kernel_rfl) ?_
    go_simp
    go_at_call 52
    refine cP.mono ?_;rintro x wP ⟨rfl,hwP⟩;have hHeldP:wP.heap[qx0]?=some (.cells #[.string kx0,.string tx0,.int .i64 fx0,.int .i64 ex0,.slice ax0 nx0 cx0] 25 (0,0)):=(hwP.2.block _ (Array.getElem?_eq_some_iff.1 hHeld4).1 (by have:=HLx0.out;have:=HM1.out.size;omega)).trans hHeld4;have HMP:=hid (HMZ.out.trans (hwP.2.mono HMZ.out.size));have HWP:=hid hwP;clear cP hwP;dsimp only;refine hK.out _ _ (hHeldP) (fun hHeld5=>?_)
    (try simp only [Act.put,OP.a,OP.b,OP.c])
    clear hK K;have hq8:wP.heap[w.heap.size]?=_:=(HMP.out.block w.heap.size (Array.getElem?_eq_some_iff.1 HQ1.out).1 (by omega)).trans HQ1.out;obtain ⟨⟨r0,r1,r2,r3,r4⟩,gz⟩:=five_cells hq8;have g0:=gz 0;have g1:=gz 1;have g2:=gz 2;have g3:=gz 3;have g4:=gz 4;obtain ⟨WF,hWF,hFq,hFo,-⟩:=put_five (a':=.string ⟨#[102,117,110,99]⟩) (b':=.string sv) (c':=.int .i64 fr) (e':=.int .i64 ez) (f':=.slice (some ⟨z,0,none⟩) 3 3) hq8;have hqw1:=(Array.getElem?_eq_some_iff.1 HQ1.out).1;have hHeldF:WF.heap[qx0]?=some (.cells #[.string kx0,.string tx0,.int .i64 fx0,.int .i64 ex0,.slice ax0 nx0 cx0] 25 (0,0)):=(hFo qx0 (by have:=HLx0.out;omega)).trans hHeld5;have HFQ:=hid hFq;have HWF:=hid hWF;clear gz hq8 hFq hFo hqw1;refine wpAnyH_ready (rs:=[10]) (by kernel_rfl) (by simp) ?_;refine (AllReadyH.cons (o:=OP.p80) rfl (fun K hK=>?_) AllReadyH.nil);refine wanted_step (by kernel_rfl) ?_
    go_simp
    refine hK.out _ _ (hHeldF) (fun hHeld6=>?_)
    (try simp only [Act.put,OP.a,OP.b,OP.c])
    clear hK K;clear r0 r1 r2 r3 r4 g0 g1 g2 g3 g4 hWF hHeld hHeld2 hHeld3 hHeld4 hHeld5 hHeld6 hHeldA hHeldB hHeldZ hHeldP hHeldF;refine wpAnyH_done (by kernel_rfl) ?_ _
    go_wp2_with fail
    refine bodyPost_ret (v:=.agg #[.string ⟨#[102,117,110,99]⟩,.string sv,.int .i64 fr,.int .i64 ez,.slice (some ⟨z,0,none⟩) 3 3]) (results_cell_row rfl _ _ w.heap.size 25 #[.string ⟨#[102,117,110,99]⟩,.string sv,.int .i64 fr,.int .i64 ez,.slice (some ⟨z,0,none⟩) 3 3] (0,0) _ (by rfl) HFQ.out Tryz.underlying25 rfl (by kernel_rfl)) rfl ?_;rw [← HQ.out,← HWF.out];refine reads_end hd (HM1.out.trans (HMP.out.mono HM1.out.size)) HWP.out.1 HAT.out.1 HAT.out.2 ?_ ⟨Nat.le_refl _,Nat.le_refl _⟩;have hsz:=HM1.out.size;have hqq:=(Array.getElem?_eq_some_iff.1 HQ1.out).1;have hze:=HZE.out;have hmv:=HMV.out.size;have hz7:wP.heap[z]?=_:=(HWP.out.2.block z hze.2.2 (by omega)).trans HRZ.out;refine partV_row hz7 (by omega) (fun p j hpj=>?_) (by omega) (Nat.le_refl _);obtain ⟨hp,hn8,hP,hRR,hB⟩:=HPL.out p j hpj;refine ⟨kFunc,nm.by',_,by rw [← HEZ.out];exact hp,rfl,hn8,rfl,?_⟩;have hLP:=(HLPV.out.mv (Mv.of_below (d:=d) HBZ.out) (by omega)).mv HWP.out.2 (by omega);have hLR:=(HLRV.out.mv (Mv.of_below (d:=d) HBZ.out) (by omega)).mv HWP.out.2 (by omega);have kP:=hLP.kids hP (R:=fun g=>w.heap.size<g) (fun g hg=>by omega) kParams [] F1 E1;have kR:=hLR.kids hRR (R:=fun g=>w.heap.size<g) (fun g hg=>by omega) kResult [] F2 E2;have mP:=allP_mk (hLP.parts _ _ hP).2 (hLP.parts _ _ hP).1 kParams;have mR:=allP_mk (hLR.parts _ _ hRR).2 (hLR.parts _ _ hRR).1 kResult;rw [HF1.out,HE1.out] at mP;rw [HF2.out,HE2.out] at mR;obtain ⟨u1,u2⟩:=HVx0.out ob.pt ob.at hB
    have sB:Mv w10.heap.size d w10 wP:=HSV.out.trans (((Mv.of_below HBZ.out).mono HSV.out.size).trans (HWP.out.2.mono (by have:=HSV.out.size;have:=HBZ.out.size;omega)));have kB:=u2.later (R':=fun g=>w.heap.size<g) (sB.still (Nat.le_refl _) (fun g hg=>by have:=HLx0.out;omega)) (fun g hg=>by have:=HLx0.out;omega);rw [mP,mR]
    show PartsIn wP _ _ (([.string ⟨#[112,97,114,97,109,115]⟩,.string ⟨#[]⟩,.int .i64 F1,.int .i64 E1,.slice la nn lc]:List Value)++(([.string ⟨#[114,101,115,117,108,116]⟩,.string ⟨#[]⟩,.int .i64 F2,.int .i64 E2,.slice none 0 0]:List Value)++(([.string kx0,.string tx0,.int .i64 fx0,.int .i64 ex0,.slice ax0 nx0 cx0]:List Value)++[])))
    rw [five_of u1]
    exact ⟨_,_,rfl,kP,_,_,rfl,kR,_,_,rfl,kB,rfl⟩
end Go.Proofs.YtmclaaonlhnbmaaGreatDoor.T
