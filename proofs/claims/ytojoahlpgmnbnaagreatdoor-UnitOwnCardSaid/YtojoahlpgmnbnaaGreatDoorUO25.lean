/- What the claim needs of the texts TFunc. -/
import Derived.Test.YtojoahlpgmnbnaaGreatDoorUOOp
import Derived.Test.YtojoahlpgmnbnaaGreatDoorUO23
import Derived.Test.YtojoahlpgmnbnaaGreatDoorUO24
set_option maxRecDepth 20000
set_option maxHeartbeats 16000000
namespace Go.Proofs.YtojoahlpgmnbnaaGreatDoor
namespace T
open Go.RowKit
open Go.Lib hiding intOf
open U S L
theorem Bo (L:List aZ) (M n i:Nat) (acc:List Pt):params L M (n+1) i acc =
  (param L M qZ i).next fun p j=>if bG L [41] j then .ok (acc++[p]) (j+1) else (bI L [44] j).next fun _ k=>params L M n k (acc++[p]):=rfl
theorem yn (L:List aZ) (M:Nat):∀ (n i:Nat) (acc:List Pt),i≤L.length→Fw L i (params L M n i acc)
 | 0,i,acc,hi=>⟨ae _,hi⟩
 | n+1,i,acc,hi=>by
  rw [Bo];refine ((wU M qZ hi).next fun p j _ _ hj=>?_).toFw
  split
  ·rename_i h
   exact .ok (dZ _) (bR h) _
  ·exact (((bU _ hj).next fun _ k _ _ hk=>yn L M n k _ hk)).toFw
def Out.ls:Out (List Pt)→List Pt
 | .ok l _=>l
 | .bad _=>[]
theorem Xh {o:Out (List Pt)} (h:o.aA=false):o=.ok o.ls o.at:=by
 cases o with
 | ok l j=>rfl
 | bad j=>cases h
theorem dY.kids {B:Nat} {o:Out (List Pt)} {n:Nat} {xs:List Value} {W:World} {a:Option Addr} {c j:Nat} {ks:List Pt} {R:Nat→Prop} (h:dY B o (.slice a n c) n xs W) (ho:o=.ok ks j) (hR:∀ g,B≤g→R g) (K T:By) (F E:Int):aT W R (.mk K T F E ks) (.slice a n c):=by
 obtain ⟨e1,e2⟩:=h.parts ks j ho
 rcases h.own.2 with ⟨h1,h2⟩|⟨g,cap,cur,h1,h2,h3,h4,_,_,h6⟩
 ·cases h1
  have hk:ks=[]:=eG (by omega);subst hk
  exact ⟨_,_,by rw [dM,← h2],by omega,.inl rfl⟩
 ·cases h1
  refine ⟨_,_,by rw [e1],by omega,.inr ⟨g,0,xs,rfl,hR g h2,fun j u hj=>?_,aO.later (fun _ _ _=>rfl) (fun g hg=>hR g hg.1) _ _ e2⟩⟩
  unfold World.cell?
  rw [h3];rw [← h6,List.getElem?_take] at hj
  split at hj
  ·simpa using hj
  ·cases hj
theorem ry {W:World} {R:Nat→Prop}:∀ {l:List Pt} {xs:List Value} {i:Nat} {K T:By} {F E:Int} {ks:List Pt},aO W R l xs→l[i]?=some (.mk K T F E ks)→xs[i*5+2]?=some (.int .i64 F)∧xs[i*5+3]?=some (.int .i64 E)
 | [],_,_,_,_,_,_,_,_,h=>by simp at h
 | .mk k t f e ks :: r,xs,0,K,T,F,E,ks',h,hi=>by
  obtain ⟨lv,rest,rfl,h2,h3⟩:=h;simp only [List.getElem?_cons_zero,bW,Pt.mk.injEq] at hi;obtain ⟨_,_,rfl,rfl,_⟩:=hi
  exact ⟨rfl,rfl⟩
 | p :: r,xs,i+1,K,T,F,E,ks',h,hi=>by
  obtain ⟨lv,rest,rfl,h2,h3⟩:=h;rw [iw] at hi;obtain ⟨a1,a2⟩:=ry h3 hi;have hl:=eO p lv
  constructor
  ·rw [aK (by omega),hl,show (i+1)*5+2 - 5=i*5+2 by omega];exact a1
  ·rw [aK (by omega),hl,show (i+1)*5+3 - 5=i*5+3 by omega];exact a2
theorem Ch {W:World} {R:Nat→Prop} {ps:List Pt} {xs:List Value} {n:Nat} (hp:aO W R ps xs) (hn:ps.length=n) (K:By):mG K ps=.mk K [] (sM n xs) (xC n xs) ps:=by
 cases ps with
 | nil =>
  have:n=0:=by simpa using hn.symm
  subst this
  rfl
 | cons p r =>
  obtain ⟨k,t,f,e,ks⟩:=p
  have h0:n≠0:=by rw [← hn];simp
  have h1:=(ry (i:=0) hp rfl).1
  unfold mG sM xC
  rw [ai h0,ai h0,show xs[2]?=some (.int .i64 f) from h1]
  have hl:(Pt.mk k t f e ks :: r).getLast?=(Pt.mk k t f e ks :: r)[n - 1]?:=by rw [List.getLast?_eq_getElem?,hn]
  show Pt.mk K [] f (match (Pt.mk k t f e ks :: r).getLast? with|some (.mk _ _ _ e' _)=>e'|none=>0) (Pt.mk k t f e ks :: r)=_
  rw [hl]
  have hlt:n - 1<(Pt.mk k t f e ks :: r).length:=by omega
  cases hpl:(Pt.mk k t f e ks :: r)[n - 1] with
  | mk k' t' f' e' ks' =>
   have hg:(Pt.mk k t f e ks :: r)[n - 1]?=some (.mk k' t' f' e' ks'):=by rw [aC hlt,hpl]
   rw [hg,(ry hp hg).2]
   rfl
theorem Ih (d:Nat) (L:List aZ) (lv:Value) (hL:L.length≤1000000) (n i:Nat) (b:Bool) (w:World) (hR:Rd d lv i b w) (hT:Tk d L lv w) (hi:i≤L.length) (hn:b=false→8*(L.length - i)+5≤n) :
  Calls Tryz.prog 41 #[.pointer (some ⟨d,0,none⟩)] w (Reads d lv (start b i (rX L n i)) w):=by
 obtain ⟨O,hO⟩:∃ O,start b i (rX L n i)=O:=⟨_,rfl⟩;have HO:=hid hO;rw [hO];clear hO;have hd:=hR.lt;obtain ⟨W1,hW1⟩:∃ W1,w.alloc gB=W1:=⟨_,rfl⟩
 have hb1:Below w.heap.size w W1:=by rw [← hW1];exact (aj _ w).alloc (ae _) _
 have dP:=hid (Mv.of_below (d:=d) hb1)
 have hq1:W1.heap[w.heap.size]?=some (.cells #[.string ⟨#[]⟩,.string ⟨#[]⟩,.int .i64 0,.int .i64 0,.slice none 0 0] 49 (0,0)):=by rw [← hW1];exact aG w _
 have lL:Rd d lv i b W1:=hR.below hb1;have hT1:=hT.mv (Mv.of_below hb1) (ae _);have c1:=mZ d L lv i b W1 lL hT1;obtain ⟨fr,hfr⟩:∃ fr,bQ L i=fr:=⟨_,rfl⟩;rw [hfr] at c1;have Aq:=hid hfr;have HW1:=hid hW1;have jD:=hid hq1;have HR1:=hid lL;have HT1:=hid hT1;have HT0:=hid hT;have HN:=hid hn;obtain ⟨Q,hQ⟩:∃ Q,Reads d lv O w=Q:=⟨_,rfl⟩;have HQ:=hid hQ;rw [hQ];clear hW1 hq1 hb1 lL hT1 hfr hn hQ hR hT
 go_enter Tryz.func41,Tryz.ntmps41
 go_wp2_with fail
 rw [HW1.out];refine c1.mono ?_;intro x w2 h2;obtain ⟨rfl,hw2⟩:=h2.went HR1.out;have kG:=hid hw2.2;have HR2:=hid hw2.1;clear c1 h2 hw2;obtain ⟨om,mE⟩:∃ u,start b i (bI L eY i)=u:=⟨_,rfl⟩;obtain ⟨nm,hnm⟩:∃ u,start om.aA om.at (gK L om.at)=u:=⟨_,rfl⟩;obtain ⟨op,hop⟩:∃ u,start nm.aA nm.at (bI L [40] nm.at)=u:=⟨_,rfl⟩;obtain ⟨OL,Bj⟩:∃ u,start op.aA op.at (if bG L [41] op.at then .ok [] (op.at+1) else params L n n op.at [])=u:=⟨_,rfl⟩;obtain ⟨oR,TH⟩:∃ u,start OL.aA OL.at (if bG L [123] OL.at then .ok [] OL.at else (typed L n OL.at).next fun x q=>.ok [x] q:Out (List Pt))=u:=⟨_,rfl⟩;obtain ⟨ob,fw⟩:∃ u,start oR.aA oR.at (block L n oR.at)=u:=⟨_,rfl⟩;obtain ⟨sv,hsv⟩:∃ u,xy nm=u:=⟨_,rfl⟩;have sJ:Hid (oZ L i b (start b i (Out.ok () i:Out Unit))):=hid (.begun hi ⟨ae _,hi⟩);have qj:Hid (oZ L i b om):=hid (by rw [← mE];exact .begun hi (bU _ hi).toFw);have rQ:Hid (oZ L i b nm):=hid (by rw [← hnm];exact qj.out.step (jw qj.out.le).toFw);have PI:Hid (oZ L i b op):=hid (by rw [← hop];exact rQ.out.step (bU _ rQ.out.le).toFw)
 have BD:Hid (oZ L i b OL):=hid (by
  rw [← Bj];refine PI.out.step ?_
  split
  ·rename_i h
   exact .ok (dZ _) (bR h) _
  ·exact yn L n n _ _ PI.out.le)
 have Mj:Hid (oZ L i b oR):=hid (by
  rw [← TH];refine BD.out.step ?_
  split
  ·exact .ok (ae _) BD.out.le _
  ·exact ((jy n _ BD.out.le).next fun x q _ _ hq=>Fw.ok (ae _) hq _).toFw)
 have D4:Hid (oZ L i b ob):=hid (by rw [← fw];exact Mj.out.step ((nk L n).block _ Mj.out.le).toFw);have acB:Hid (oR.aA=false→b=false):=hid (fun h=>Mj.out.so h)
 have acC:Hid (op.aA=false→1≤op.at∧b=false):=hid (fun h=>by
  refine ⟨?_,PI.out.so h⟩;rw [← hop] at h ⊢;obtain ⟨h1,h2⟩:=jq h;rw [h2] at h ⊢;have:=(bU [40] rQ.out.le).gt h
  omega)
 have nM:Hid (O=ob.next fun b r=>part L eY nm.Kq fr [mG eT OL.ls,mG fJ oR.ls,b] r):=hid (by
  rw [← HO.out,← Aq.out]
  have h0:start b i (rX L n i)=om.next fun _ j=>(gK L j).next fun s k=>(bI L [40] k).next fun _ m =>
    (if bG L [41] m then .ok [] (m+1) else params L n n m []).next fun ps o=>(if bG L [123] o then .ok [] o else (typed L n o).next fun x q=>.ok [x] q).next fun rs q=>(block L n q).next fun b r=>part L eY s (bQ L i) [mG eT ps,mG fJ rs,b] r:=by
   rw [← mE,← uF];rfl
  rw [h0]
  cases om with
  | bad j=>subst hnm;subst hop;subst Bj;subst TH;subst fw;rfl
  | ok u j =>
   have hnm:gK L j=nm:=hnm
   show ((gK L j).next _)=_
   rw [hnm]
   cases nm with
   | bad j=>subst hop;subst Bj;subst TH;subst fw;rfl
   | ok s k =>
    have hop:bI L [40] k=op:=hop
    show ((bI L [40] k).next _)=_
    rw [hop]
    cases op with
    | bad j=>subst Bj;subst TH;subst fw;rfl
    | ok u m =>
     have Bj:(if bG L [41] m then .ok [] (m+1) else params L n n m [])=OL:=Bj
     show ((if bG L [41] m then .ok [] (m+1) else params L n n m []:Out (List Pt)).next _)=_
     rw [Bj]
     cases OL with
     | bad j=>subst TH;subst fw;rfl
     | ok ps o =>
      have TH:(if bG L [123] o then .ok [] o else (typed L n o).next fun x q=>.ok [x] q:Out (List Pt))=oR:=TH
      show ((if bG L [123] o then .ok [] o else (typed L n o).next fun x q=>.ok [x] q:Out (List Pt)).next _)=_
      rw [TH]
      cases oR with
      | bad j=>subst fw;rfl
      | ok rs q =>
       have fw:block L n q=ob:=fw
       show ((block L n q).next _)=_
       rw [fw]
       rfl)
 have HAT:Hid (O.at=ob.at∧O.aA=ob.aA):=hid (by rw [nM.out];cases ob <;> exact ⟨rfl,rfl⟩)
 have Ni:Hid (∀ p j,O=.ok p j→p=.mk eY nm.Kq fr (jY L ob.at) [mG eT OL.ls,mG fJ oR.ls,ob.pt]∧aU nm.Kq=sv∧OL=.ok OL.ls OL.at∧oR=.ok oR.ls oR.at∧ob=.ok ob.pt ob.at):=hid (by
  intro p j fQ;rw [nM.out] at fQ
  have hb:ob.aA=false:=by
   cases ob with
   | bad j=>cases fQ
   | ok a k=>rfl
  have h1:=jG hb;have h2:=hb;rw [← fw] at h2;have h3:=(jq h2).1;have h4:=h3;rw [← TH] at h4;have h5:=(jq h4).1;have h6:=h5;rw [← Bj] at h6;have h7:=(jq h6).1;rw [← hop] at h7;obtain ⟨j2,h8⟩:=TG (jq h7).1;rw [h1] at fQ;simp only [Out.next,part,Out.ok.injEq] at fQ;refine ⟨fQ.1.symm,?_,Xh h5,Xh h3,h1⟩;rw [← hsv]
  rw [h8];rfl)
 obtain ⟨iP,hi0,hz0,hz1,hz2⟩:=nQ Ay;have Hq:=hid mE;have TV:=hid hnm;have Tf:=hid hsv;have D8:=hid hop;have Zb:=hid Bj;have HoR:=hid TH;have Xe:=hid fw;clear mE hnm hsv hop Bj TH fw;have c3:=jf d L lv i b eY w2 HR2.out (HT1.out.mv kG.out (ae _)) (by have:=sJ.out.le;omega);rw [Hq.out,show aU eY=⟨#[102,117,110,99]⟩ from rfl] at c3
 go_wp2_with fail
 refine c3.mono ?_;rintro x w3 ⟨rfl,hw3⟩;have lq:=hid (kG.out.trans (hw3.2.mono kG.out.size));have HR3:=hid hw3.1
 skip
 clear c3 hw3;have c4:=nH d L lv om.at om.aA w3 HR3.out (HT1.out.mv lq.out (ae _)) (by have:=qj.out.le;omega);rw [TV.out,Tf.out] at c4
 go_wp2_with fail
 refine c4.mono ?_;rintro x w4 ⟨rfl,hw4⟩;have mJ:=hid (lq.out.trans (hw4.2.mono lq.out.size));have HR4:=hid hw4.1
 skip
 clear c4 hw4;have c5:=jf d L lv nm.at nm.aA [40] w4 HR4.out (HT1.out.mv mJ.out (ae _)) (by have:=rQ.out.le;omega);rw [D8.out,show aU [40]=⟨#[40]⟩ from rfl] at c5
 go_wp2_with fail
 refine c5.mono ?_;rintro x w5 ⟨rfl,jA⟩;have mK:=hid (mJ.out.trans (jA.2.mono mJ.out.size));have uV:=hid jA.1
 skip
 clear c5 jA;have c8:=fE d L lv op.at op.aA [41] w5 uV.out (HT1.out.mv mK.out (ae _)) (by have:=PI.out.le;omega);rw [show aU [41]=⟨#[41]⟩ from rfl] at c8;obtain ⟨R3,Eh⟩:∃ R,(!op.aA&&bG L [41] op.at)=R:=⟨_,rfl⟩;rw [Eh] at c8;have HR3:=hid Eh;clear Eh
 go_wp2_with fail
 refine c8.mono ?_;rintro x w8 ⟨rfl,hw8⟩;have lF:=hid (mK.out.trans (hw8.2.mono mK.out.size))
 have DZ:Hid (jP d L lv W1 OL (fun m j l=>params L n m j l) 0 n R3 (start op.aA (if R3=true then op.at+1 else op.at) (.ok [] (if R3=true then op.at+1 else op.at))) (.slice none 0 0) 0 [] n w8):=hid (by
  have h1:(start op.aA (if R3=true then op.at+1 else op.at) (.ok [] (if R3=true then op.at+1 else op.at):Out (List Pt))).at=(if R3=true then op.at+1 else op.at):=by cases op.aA <;> rfl
  have h2:(start op.aA (if R3=true then op.at+1 else op.at) (.ok [] (if R3=true then op.at+1 else op.at):Out (List Pt))).aA=op.aA:=by cases op.aA <;> rfl
  have h3:=HR3.out
  refine ⟨?_,by rw [h1,h2];exact hw8.1,lF.out,(dY.nil _ (if R3=true then op.at+1 else op.at) _).out (fun l j h=>?_),?_,aL _,?_,fun hr hb=>?_⟩
  ·rw [← Zb.out]
   cases hb:op.aA
   ·rw [hb] at h3
    have h3:bG L [41] op.at=R3:=h3;rw [aW,aW,h3]
    cases R3 <;> rfl
   ·rw [hb] at h3
    have h3:false=R3:=h3;rw [← h3];rfl
  ·cases hb:op.aA
   ·rw [hb] at h
    exact ⟨_,by cases h;rfl⟩
   ·rw [hb] at h
    cases h
  ·rw [h1]
   split
   ·rename_i hr
    rw [hr] at h3
    have h4:op.aA=false∧bG L [41] op.at=true:=by simpa using h3
    exact bR h4.2
   ·exact PI.out.le
  ·rw [h1,h2]
   cases hb:op.aA
   ·have:=(acC.out hb).1
    rw [ai (by decide)]
    split <;> omega
   ·rw [ay rfl];exact aL _
  ·rw [h1,hr,ai (by decide)]
   rw [h2] at hb;have h6:=HN.out (acC.out hb).2;have h7:=PI.out.ge
   omega)
 clear c8 hw8
 go_wp2_with fail
 go_loopw [5,6] (fun av fv wr=>∃ (fin:Bool) (o:Out (List Pt)) (v:Value) (nn:Nat) (xs:List Value) (mm:Nat),av=v∧fv=.bool fin∧Hid (jP d L lv W1 OL (fun m j l=>params L n m j l) 0 n fin o v nn xs mm wr)) (fun _ _ wr=>(L.length+1 - atR d wr)*2+nR d wr)
 case atStart=>exact ⟨R3,_,_,0,[],n,rfl,rfl,DZ⟩
 case round =>
  clear DZ;obtain ⟨fin,o,v,nn,xs,mm,rfl,rfl,fG⟩:=hrel;obtain ⟨la,lc,Zc⟩:=fG.out.list.form;subst Zc
  cases fin
  focus
   cases fw:o.aA
   ·skip
    obtain ⟨l,hl⟩:=yf fw;obtain ⟨oa,hoa⟩:∃ u,o.at=u:=⟨_,rfl⟩;rw [hoa] at hl;subst hl;have hfu2:=fG.out.fuel rfl rfl;have hle:oa≤L.length:=fG.out.le;have hlo:0≤oa:=fG.out.lo;have hcn:nn+1≤oa:=fG.out.cnt;have Zd:8*(L.length - oa)+5≤mm:=hfu2.1;have Ze:mm≤n:=hfu2.2;obtain ⟨m',rfl⟩:∃ m',mm=m'+1:=⟨mm - 1,by omega⟩;obtain ⟨ob,pG⟩:∃ u,start false oa (param L n qZ oa)=u:=⟨_,rfl⟩;have sK:Hid (vW L oa ob):=hid (by rw [← pG,aW];exact wU n qZ hle)
    have yc:Hid (OL=ob.next fun a j=>if bG L [41] j then .ok (l++[a]) (j+1) else (bI L [44] j).next fun _ k=>params L n m' k (l++[a])):=hid (by
     have h:=fG.out.out;rw [ai (by decide)] at h;rw [h,← pG,aW]
     exact Bo L n m' oa l)
    have Bh:=hid (HT1.out.mv fG.out.mv (ae _));have BC:Hid (Rd d lv oa false wr):=hid fG.out.rd;have Bl:Hid (dY W1.heap.size (.ok l oa) (.slice la nn lc) nn xs wr):=hid fG.out.list;have pJ:=hid fG.out.mv;have yh:Hid (atR d wr=oa):=hid BC.out.at;have Az:Hid (nR d wr=1):=hid BC.out.good;have cb:=FK d L lv hL n qZ oa false wr BC.out Bh.out hle (fun _=>by omega);rw [pG,show aU qZ=⟨#[112,97,114,97,109]⟩ from rfl] at cb;have afP:=hid pG;have k2:=BC.out.c2;clear pG hfu2 fw hoa
    go_wp2_with fail
    refine cb.mono ?_;rintro x v5 ⟨v,rfl,⟨kb,tb,fb,eb,ab,nb,kS,rfl,hnb,hvb⟩,jA⟩;have D3:dY W1.heap.size (.ok l oa) (.slice la nn lc) nn xs (v5.alloc (.cells #[.string kb,.string tb,.int .i64 fb,.int .i64 eb,.slice ab nb kS] 49)):=(Bl.out.mv jA.2 (by have:=dP.out.size;omega)).mv (Mv.of_below (d:=d) ((aj _ v5).alloc (ae _) _)) (by have:=dP.out.size;omega);have hbx:Below v5.heap.size v5 (v5.alloc (.cells #[.string kb,.string tb,.int .i64 fb,.int .i64 eb,.slice ab nb kS] 49)):=(aj _ v5).alloc (ae _) _
    have hsx:W1.heap.size≤(v5.alloc (.cells #[.string kb,.string tb,.int .i64 fb,.int .i64 eb,.slice ab nb kS] 49)).heap.size:=by have:=jA.2.size;have:=pJ.out.size;have:=hbx.size;omega
    have Hw:=hid hvb;have qA:=hid jA;have yj:=hid D3;have xB:=hid hbx;clear cb hvb jA D3 hbx hnb k2
    go_wp2_with (at_builtin;refine dG _ rfl _ _ 47 rfl W1.heap.size 49 iP _ 5 72 Tryz.underlying47 hi0 hz0 hz1 hz2 rfl (by decide) _ nn xs rfl yj.out.own ⟨v5.heap.size,0,none⟩ 1 1 [.string kb,.string tb,.int .i64 fb,.int .i64 eb,.slice ab nb kS] rfl rfl (qo (aG v5 _)) qm (by unfold maxLen;omega) (by omega) hsx ?_)
    intro v' w7 bY aP _ mf
    have hrow:v'.ownBlock=(Value.slice la nn lc).ownBlock∨v'.ownBlock=some (v5.alloc (.cells #[.string kb,.string tb,.int .i64 fb,.int .i64 eb,.slice ab nb kS] 49)).heap.size:=by simpa using mf
    clear mf
    have Ej:Hid (∀ o':Out (List Pt),(∀ l' j',o'=.ok l' j'→∃ p jp,ob=.ok p jp∧l'=l++[p])→dY W1.heap.size o' v' (nn+1) (xs++[.string kb,.string tb,.int .i64 fb,.int .i64 eb,.slice ab nb kS]) w7):=hid (fun o' ho'=>yj.out.snoc Bl.out (ae _) pJ.out.size Hw.out xB.out bY aP hrow (fun l' j' hl'=>by
     obtain ⟨p,jp,h1,h2⟩:=ho' l' j' hl'
     exact ⟨l,oa,p,jp,rfl,h1,h2⟩))
    have hown1:∀ k,(Value.slice la nn lc).ownBlock=some k→W1.heap.size≤k:=fun k hk=>(yj.out.own.lt k hk).1
    have hd1:d<W1.heap.size:=by have:=dP.out.size;omega
    have sw:Hid (Rd d lv ob.at ob.aA w7):=hid (by
     have h:=qA.out.1.below xB.out
     exact (aP.block d h.lt (fun h'=>by have:=hown1 d h'.symm;omega)).trans h)
    have iN:Hid (Mv W1.heap.size d W1 w7):=hid (pJ.out.trans ((qA.out.2.mono pJ.out.size).trans (((Mv.of_below xB.out).mono (by have:=qA.out.2.size;have:=pJ.out.size;omega)).trans ⟨aP.os,aP.tape,aP.output,aP.size,fun k hk _=>aP.block k (by omega) (fun h'=>by have:=hown1 k h'.symm;omega)⟩)));have c8:=fE d L lv ob.at ob.aA [41] w7 sw.out (HT1.out.mv iN.out (ae _)) (by have:=sK.out.le;omega);rw [show aU [41]=⟨#[41]⟩ from rfl] at c8;obtain ⟨R9,L8⟩:∃ R,(!ob.aA&&bG L [41] ob.at)=R:=⟨_,rfl⟩;rw [L8] at c8;have H9:=hid L8;clear bY aP hrow hown1 hd1 L8 hsx
    cases R9
    ·obtain ⟨om,mE⟩:∃ u,start ob.aA ob.at (bI L [44] ob.at)=u:=⟨_,rfl⟩
     have H8:Hid (ob.at≤om.at∧om.at≤L.length∧(om.aA=false→ob.aA=false∧ob.at<om.at)):=hid (by
      rw [← mE]
      cases hb:ob.aA
      ·exact ⟨(bU _ sK.out.le).ge,(bU _ sK.out.le).le,fun h=>⟨rfl,(bU _ sK.out.le).gt h⟩⟩
      ·exact ⟨ae _,sK.out.le,fun h=>by cases h⟩)
     have uo:Hid (OL=(om.next fun _ k=>Out.ok (l++[ob.pt]) k).next fun acc k=>params L n m' k acc):=hid (by
      rw [yc.out,qV,← mE];have h9:=H9.out
      cases ob with
      | bad j=>rfl
      | ok a j =>
       have h9:bG L [41] j=false:=by simpa [Out.aA,Out.at] using h9
       show (if bG L [41] j=true then _ else _)=_
       rw [ai (by rw [h9];decide)]
       rfl)
     have nM:Hid ((om.next fun _ k=>Out.ok (l++[ob.pt]) k).at=om.at∧(om.next fun _ k=>Out.ok (l++[ob.pt]) k).aA=om.aA):=hid (by cases om <;> exact ⟨rfl,rfl⟩)
     have Ir:Hid (dY W1.heap.size (om.next fun _ k=>Out.ok (l++[ob.pt]) k) v' (nn+1) (xs++[.string kb,.string tb,.int .i64 fb,.int .i64 eb,.slice ab nb kS]) w7):=hid (Ej.out _ (fun l' j' hl'=>by
      cases om with
      | bad k=>cases hl'
      | ok u k =>
       cases hl'
       exact ⟨ob.pt,ob.at,jG (H8.out.2.2 rfl).1,rfl⟩))
     have Hq:=hid mE;clear mE
     go_wp2_with fail
     refine c8.mono ?_;rintro x w8 ⟨rfl,hw8⟩;have hw8:kz d lv ob.at ob.aA w7 w8:=hw8;have lF:=hid (iN.out.trans (hw8.2.mono iN.out.size));have c9:=jf d L lv ob.at ob.aA [44] w8 hw8.1 (HT1.out.mv lF.out (ae _)) (by have:=sK.out.le;omega);rw [Hq.out,show aU [44]=⟨#[44]⟩ from rfl] at c9;have Px:=hid hw8;clear c8 hw8
     go_wp2_with fail
     refine c9.mono ?_;rintro x w9 ⟨rfl,dV⟩;have kF:=hid (lF.out.trans (dV.2.mono lF.out.size))
     have oC:Hid (jP d L lv W1 OL (fun m j l=>params L n m j l) (0) (n) false (om.next fun _ k=>Out.ok (l++[ob.pt]) k) v' (nn+1) (xs++[.string kb,.string tb,.int .i64 fb,.int .i64 eb,.slice ab nb kS]) m' w9):=hid ⟨by rw [ai (by decide)];exact uo.out,by rw [nM.out.1,nM.out.2];exact dV.1,kF.out,(Ir.out.mv Px.out.2 (by have:=dP.out.size;omega)).mv dV.2 (by have:=dP.out.size;omega),by rw [nM.out.1];exact H8.out.2.1,by rw [nM.out.1];have:=H8.out.1;have:=sK.out.ge;omega,by
      rw [nM.out.1,nM.out.2];have h1:=H8.out.1;have h2:=sK.out.ge
      cases hb:om.aA
      ·have h3:=H8.out.2.2 hb
       have h4:=sK.out.gt h3.1;rw [ai (by decide)];omega
      ·rw [ay rfl];omega,fun _ hb=>by
      rw [nM.out.2] at hb;rw [nM.out.1];have h3:=H8.out.2.2 hb;have h4:=sK.out.gt h3.1;have h5:=H8.out.2.1
      omega⟩
     have sO:Hid (atR d w9=om.at∧nR d w9=if om.aA then 0 else 1):=hid ⟨dV.1.at,dV.1.good⟩;clear c9 dV
     go_wp2_with fail
     go_roundw
     case rel=>exact ⟨false,_,_,_,_,m',rfl,rfl,oC⟩
     case measure =>
      rw [sO.out.1,sO.out.2,yh.out,Az.out];have h1:=H8.out.1;have h2:=sK.out.ge
      cases hb:om.aA
      ·have h3:=H8.out.2.2 hb
       have h4:=sK.out.gt h3.1;rw [ai (by decide)];omega
      ·rw [ay rfl];omega
    ·have nV:ob.aA=false∧bG L [41] ob.at=true:=by simpa using H9.out
     have Lc:ob.at<L.length:=bR nV.2
     have uo:Hid (OL=.ok (l++[ob.pt]) (ob.at+1)):=hid (by
      rw [yc.out]
      cases ob with
      | bad j=>cases nV.1
      | ok a j =>
       show (if bG L [41] j=true then _ else _)=_
       rw [ay (show bG L [41] j=true from nV.2)];rfl)
     have Ir:Hid (dY W1.heap.size (Out.ok (l++[ob.pt]) (ob.at+1)) v' (nn+1) (xs++[.string kb,.string tb,.int .i64 fb,.int .i64 eb,.slice ab nb kS]) w7):=hid (Ej.out _ (fun l' j' hl'=>by
      cases hl'
      exact ⟨ob.pt,ob.at,jG nV.1,rfl⟩))
     have sP:=hid nV;have Zf:=hid Lc;clear nV Lc
     go_wp2_with fail
     refine c8.mono ?_;rintro x w8 ⟨rfl,hw8⟩;have hw8:kz d lv (ob.at+1) ob.aA w7 w8:=hw8;rw [sP.out.1] at hw8;have lF:=hid (iN.out.trans (hw8.2.mono iN.out.size));have oC:Hid (jP d L lv W1 OL (fun m j l=>params L n m j l) (0) (n) true (Out.ok (l++[ob.pt]) (ob.at+1)) v' (nn+1) (xs++[.string kb,.string tb,.int .i64 fb,.int .i64 eb,.slice ab nb kS]) m' w8):=hid ⟨by rw [ay rfl];exact uo.out,hw8.1,lF.out,Ir.out.mv hw8.2 (by have:=dP.out.size;omega),Zf.out,by show 0≤ob.at+1;have:=sK.out.ge;omega,by show nn+1+1≤ob.at+1;have:=sK.out.gt sP.out.1;omega,fun h=>by cases h⟩;have sO:Hid (atR d w8=ob.at+1∧nR d w8=1):=hid ⟨hw8.1.at,hw8.1.good⟩;clear c8 hw8
     go_wp2_with fail
     go_roundw
     case rel=>exact ⟨true,_,_,_,_,m',rfl,rfl,oC⟩
     case measure =>
      rw [sO.out.1,sO.out.2,yh.out,Az.out];have h2:=sK.out.ge
      omega
   have hox:OL=o:=by
    rw [fG.out.out,ai (by decide)]
    cases o with
    | ok a j=>cases fw
    | bad j=>rfl
   have hc2:=fG.out.rd.c2;rw [fw] at hc2;clear fw
  rotate_left
  focus
   have hox:OL=o:=fG.out.out
  rotate_left
  all_goals
   subst hox;have HCP:Hid (nn≤1000000):=hid (by have h1:=fG.out.cnt;have h2:=fG.out.le;split at h1 <;> omega);have HRp:Hid (Rd d lv OL.at OL.aA wr):=hid fG.out.rd;have ci:=iM d L lv OL.at OL.aA [123] wr HRp.out (HT1.out.mv fG.out.mv (ae _));rw [show aU [123]=⟨#[123]⟩ from rfl] at ci;obtain ⟨R5,Zs⟩:∃ R,(!OL.aA&&bG L [123] OL.at)=R:=⟨_,rfl⟩;rw [Zs] at ci;have H5:=hid Zs;clear Zs
   cases R5
   ·go_wp2_with fail
    refine ci.mono ?_;intro x w4 h4;obtain ⟨rfl,hw4⟩:=h4.went HRp.out;have pJ:=hid (fG.out.mv.trans (hw4.2.mono fG.out.mv.size));have BC:=hid hw4.1;have Bh:=hid (HT1.out.mv pJ.out (ae _));have Zu:=hid (fG.out.list.mv hw4.2 (by have:=dP.out.size;omega));have Bl:Hid (dY W1.heap.size (Out.ok [] 0) (.slice none 0 0) 0 [] w4):=hid (dY.nil _ _ _);obtain ⟨oo,D7⟩:∃ u,start OL.aA OL.at (typed L n OL.at)=u:=⟨_,rfl⟩
    have HE4:Hid (oR=oo.next fun x q=>.ok [x] q):=hid (by
     rw [← HoR.out,← D7];have h:=H5.out
     cases hb:OL.aA
     ·rw [hb] at h
      have h:bG L [123] OL.at=false:=h;rw [aW,aW,ai (by rw [h];decide)]
     ·rfl)
    have HE5:Hid (oR.at=oo.at∧oR.aA=oo.aA):=hid (by rw [HE4.out];cases oo <;> exact ⟨rfl,rfl⟩);have Xf:=hid D7;clear ci h4 hw4 D7;have cb:=tO d L lv hL n OL.at OL.aA w4 BC.out Bh.out BD.out.le (fun h=>by have h3:=HN.out (BD.out.so h);have h5:=BD.out.ge;omega);rw [Xf.out] at cb
    go_wp2_with fail
    refine cb.mono ?_;rintro x v5 ⟨v,rfl,⟨kb,tb,fb,eb,ab,nb,kS,rfl,hnb,hvb⟩,jA⟩;have D3:dY W1.heap.size (Out.ok [] 0) (.slice none 0 0) 0 [] (v5.alloc (.cells #[.string kb,.string tb,.int .i64 fb,.int .i64 eb,.slice ab nb kS] 49)):=(Bl.out.mv jA.2 (by have:=dP.out.size;omega)).mv (Mv.of_below (d:=d) ((aj _ v5).alloc (ae _) _)) (by have:=dP.out.size;omega);have hbx:Below v5.heap.size v5 (v5.alloc (.cells #[.string kb,.string tb,.int .i64 fb,.int .i64 eb,.slice ab nb kS] 49)):=(aj _ v5).alloc (ae _) _
    have hsx:W1.heap.size≤(v5.alloc (.cells #[.string kb,.string tb,.int .i64 fb,.int .i64 eb,.slice ab nb kS] 49)).heap.size:=by have:=jA.2.size;have:=pJ.out.size;have:=hbx.size;omega
    have Hw:=hid hvb;have qA:=hid jA;have yj:=hid D3;have xB:=hid hbx;clear cb hvb jA D3 hbx hnb
    go_wp2_with (at_builtin;refine dG _ rfl _ _ 47 rfl W1.heap.size 49 iP _ 5 72 Tryz.underlying47 hi0 hz0 hz1 hz2 rfl (by decide) _ 0 [] rfl yj.out.own ⟨v5.heap.size,0,none⟩ 1 1 [.string kb,.string tb,.int .i64 fb,.int .i64 eb,.slice ab nb kS] rfl rfl (qo (aG v5 _)) qm (by unfold maxLen;omega) (by omega) hsx ?_)
    intro v' w7 bY aP _ mf
    have hrow:v'.ownBlock=(Value.slice none 0 0).ownBlock∨v'.ownBlock=some (v5.alloc (.cells #[.string kb,.string tb,.int .i64 fb,.int .i64 eb,.slice ab nb kS] 49)).heap.size:=by simpa using mf
    clear mf
    have hown1:∀ k,(Value.slice none 0 0).ownBlock=some k→W1.heap.size≤k:=fun k hk=>(yj.out.own.lt k hk).1
    have hd1:d<W1.heap.size:=by have:=dP.out.size;omega
    have sw:Hid (Rd d lv oo.at oo.aA w7):=hid (by
     have h:=qA.out.1.below xB.out
     exact (aP.block d h.lt (fun h'=>by have:=hown1 d h'.symm;omega)).trans h)
    have iN:Hid (Mv W1.heap.size d W1 w7):=hid (pJ.out.trans ((qA.out.2.mono pJ.out.size).trans (((Mv.of_below xB.out).mono (by have:=qA.out.2.size;have:=pJ.out.size;omega)).trans ⟨aP.os,aP.tape,aP.output,aP.size,fun k hk _=>aP.block k (by omega) (fun h'=>by have:=hown1 k h'.symm;omega)⟩)))
    have Ej:Hid (dY W1.heap.size oR v' (0+1) ([]++[.string kb,.string tb,.int .i64 fb,.int .i64 eb,.slice ab nb kS]) w7):=hid (yj.out.snoc Bl.out (ae _) pJ.out.size Hw.out xB.out bY aP hrow (fun l j hl=>by
    rw [HE4.out] at hl
    cases oo with
    | bad k=>cases hl
    | ok o k =>
     cases hl
     exact ⟨[],0,o,_,rfl,rfl,rfl⟩))
    obtain ⟨ra,rc,hv'⟩:=Ej.out.form;subst hv';have af6:=hid (Zu.out.mv qA.out.2 hd1);have acE:=hid (af6.out.mv (Mv.of_below (d:=d) xB.out) hd1);have af7:Hid (dY W1.heap.size OL (.slice la nn lc) nn xs w7):=hid (acE.out.mv ⟨aP.os,aP.tape,aP.output,aP.size,fun k hk _=>aP.block k hk (fun h'=>by cases h')⟩ hd1);have zx:Hid (Rd d lv oR.at oR.aA w7):=hid (by rw [HE5.out.1,HE5.out.2];exact sw.out);have kF:=iN;have HCR:Hid (0+1≤1000000):=hid (by omega);clear bY aP hrow hown1 hd1 hsx;have c10:=FZ d L lv hL n oR.at oR.aA w7 zx.out (HT1.out.mv kF.out (ae _)) Mj.out.le (fun h=>by have h3:=HN.out (acB.out h);have h5:=Mj.out.ge;omega);rw [Xe.out] at c10
    go_wp2_with fail
    refine c10.mono ?_;rintro x qX ⟨v,rfl,⟨jQ,jR,jS,jT,jU,jV,jW,rfl,kU,ng⟩,J9⟩;have rU:=hid ng;have xA:=hid kU;clear kU;have jb:=hid J9;clear c10 ng J9
    go_upto_region 16 with fail
    obtain ⟨oG,ji⟩:∃ q,qX.heap.size=q:=⟨_,rfl⟩;obtain ⟨wE,zB⟩:∃ V,qX.alloc (.cells #[.string jQ,.string jR,.int .i64 jS,.int .i64 jT,.slice jU jV jW] 49)=V:=⟨_,rfl⟩
    have rF:Below qX.heap.size qX wE:=by rw [← zB];exact (aj _ qX).alloc (ae _) _
    have ni:Hid (wE.heap[oG]?=some (.cells #[.string jQ,.string jR,.int .i64 jS,.int .i64 jT,.slice jU jV jW] 49 (0,0))):=hid (by rw [← zB,← ji];exact aG qX _);have lK:Hid (Mv qX.heap.size d qX wE):=hid (Mv.of_below rF);have jJ:Hid (W1.heap.size≤w7.heap.size∧w7.heap.size≤qX.heap.size∧oG=qX.heap.size):=hid ⟨kF.out.size,jb.out.2.size,ji.symm⟩;rw [zB,ji];have rV:=hid ((kF.out.trans (jb.out.2.mono kF.out.size)).trans ((Mv.of_below rF).mono (aJ kF.out.size jb.out.2.size)));have yg:=hid (jb.out.1.below rF)
    skip
    clear zB rF ji;have Cf:Hid (Mv wE.heap.size d wE wE):=hid (Mv.refl _ _ _);have Zv:=hid (((af7.out).mv (jb.out.2) (by have:=dP.out.size;omega)).mv lK.out (by have:=dP.out.size;omega));have Zw:=hid (((Ej.out).mv (jb.out.2) (by have:=dP.out.size;omega)).mv lK.out (by have:=dP.out.size;omega));have Nc:Hid (wE.drew.heap[oG]?=some (.cells #[.string jQ,.string jR,.int .i64 jS,.int .i64 jT,.slice jU jV jW] 49 (0,0))):=hid ni.out;have Ii:Hid (dY W1.heap.size OL (.slice la nn lc) nn xs wE.drew):=hid (Zv.out.mv ((Mv.refl _ d _).drewN 1) (by have:=dP.out.size;omega));have Mk:Hid (dY W1.heap.size oR (.slice ra (0+1) rc) (0+1) ([]++[.string kb,.string tb,.int .i64 fb,.int .i64 eb,.slice ab nb kS]) wE.drew):=hid (Zw.out.mv ((Mv.refl _ d _).drewN 1) (by have:=dP.out.size;omega));have Am:Hid (Mv W1.heap.size d W1 wE.drew):=hid (rV.out.drewN 1);have Ey:Hid (Rd d lv ob.at ob.aA wE.drew):=hid yg.out;have yO:Hid (Mv qX.heap.size d qX wE.drew):=hid (lK.out.drewN 1)
    refine aS (S:=fun X=>X.heap[oG]?=some (.cells #[.string jQ,.string jR,.int .i64 jS,.int .i64 jT,.slice jU jV jW] 49 (0,0))) (by kernel_rfl) Nc.out fun ag=>?_
    obtain ⟨V,hV⟩:∃ V,wE.drew=V:=⟨_,rfl⟩;rw [hV] at ag Nc Ii Mk Am Ey yO ⊢;clear hV;refine OP.m 0 rfl (.pointer (some ⟨d,0,none⟩)) ag ?_;simp only [OP.s];refine OP.m 1 rfl (.string sv) ag ?_;simp only [OP.s];refine OP.m 2 rfl (.int .i64 fr) ag ?_;simp only [OP.s];refine OP.m 3 rfl (.slice la nn lc) ag ?_;simp only [OP.s];refine OP.m 5 rfl (.slice ra (0+1) rc) ag ?_;simp only [OP.s];refine OP.t 7 rfl (.agg #[.string jQ,.string jR,.int .i64 jS,.int .i64 jT,.slice jU jV jW]) (fun X hX=>by obtain ⟨q0,q1,q2,q3,q4⟩:=(aF hX).1;go_simp) ag ?_;simp only [OP.s];have cA:=Ig ⟨#[112,97,114,97,109,115]⟩ nn xs la lc V Ii.out.own Ii.out.DX HCP.out;obtain ⟨F1,hF1⟩:∃ u,sM nn xs=u:=⟨_,rfl⟩;obtain ⟨E1,hE1⟩:∃ u,xC nn xs=u:=⟨_,rfl⟩;rw [hF1,hE1] at cA;have Ev:=hid hF1;have YH:=hid hE1;clear hF1 hE1
    refine OP.r 4 rfl fun K hK=>?_
    go_simp
    go_at_call 67
    refine cA.mono ?_;rintro x wA ⟨rfl,L5⟩;have D9:wA.heap[oG]?=some (.cells #[.string jQ,.string jR,.int .i64 jS,.int .i64 jT,.slice jU jV jW] 49 (0,0)):=(L5.block _ (af.1 ag).1).trans ag;have HBA:=hid L5;have TI:=hid (Mk.out.mv (Mv.of_below (d:=d) L5) (by have:=dP.out.size;omega));clear cA L5;dsimp only;refine hK.out _ _ (D9) (fun jN=>?_)
    try simp only [OP.s]
    clear hK K;have cB:=Ig ⟨#[114,101,115,117,108,116]⟩ (0+1) ([]++[.string kb,.string tb,.int .i64 fb,.int .i64 eb,.slice ab nb kS]) ra rc wA TI.out.own TI.out.DX HCR.out;obtain ⟨F2,hF2⟩:∃ u,sM (0+1) ([]++[.string kb,.string tb,.int .i64 fb,.int .i64 eb,.slice ab nb kS])=u:=⟨_,rfl⟩;obtain ⟨E2,hE2⟩:∃ u,xC (0+1) ([]++[.string kb,.string tb,.int .i64 fb,.int .i64 eb,.slice ab nb kS])=u:=⟨_,rfl⟩;rw [hF2,hE2] at cB;have ZM:=hid hF2;have HE2:=hid hE2;clear hF2 hE2
    refine OP.r 6 rfl fun K hK=>?_
    go_simp
    go_at_call 67
    refine cB.mono ?_;rintro x wB ⟨rfl,Zx⟩;have Ea:wB.heap[oG]?=some (.cells #[.string jQ,.string jR,.int .i64 jS,.int .i64 jT,.slice jU jV jW] 49 (0,0)):=(Zx.block _ (af.1 jN).1).trans jN;have Kn:=hid (HBA.out.trans (Zx.mono HBA.out.size));clear cB Zx;dsimp only;refine hK.out _ _ (Ea) (fun lT=>?_)
    try simp only [OP.s]
    clear hK K;obtain ⟨z,hz⟩:∃ z,wB.heap.size=z:=⟨_,rfl⟩;obtain ⟨Z,hZ⟩:∃ Z,wB.alloc (.cells #[.string ⟨#[112,97,114,97,109,115]⟩,.string ⟨#[]⟩,.int .i64 F1,.int .i64 E1,.slice la nn lc,.string ⟨#[114,101,115,117,108,116]⟩,.string ⟨#[]⟩,.int .i64 F2,.int .i64 E2,.slice ra (0+1) rc,.string jQ,.string jR,.int .i64 jS,.int .i64 jT,.slice jU jV jW] 49)=Z:=⟨_,rfl⟩
    have hbz:Below wB.heap.size wB Z:=by rw [← hZ];exact (aj _ wB).alloc (ae _) _
    have hrz:Z.heap[z]?=some (.cells #[.string ⟨#[112,97,114,97,109,115]⟩,.string ⟨#[]⟩,.int .i64 F1,.int .i64 E1,.slice la nn lc,.string ⟨#[114,101,115,117,108,116]⟩,.string ⟨#[]⟩,.int .i64 F2,.int .i64 E2,.slice ra (0+1) rc,.string jQ,.string jR,.int .i64 jS,.int .i64 jT,.slice jU jV jW] 49 (0,0)):=by rw [← hZ,← hz];exact aG wB _
    have wC:Z.heap[oG]?=some (.cells #[.string jQ,.string jR,.int .i64 jS,.int .i64 jT,.slice jU jV jW] 49 (0,0)):=(hbz.block _ (af.1 lT).1).trans lT;have Cc:Hid (Below V.heap.size V Z):=hid (Kn.out.trans (hbz.mono Kn.out.size));have qi:Hid (Mv W1.heap.size d W1 Z):=hid (Am.out.trans ((Mv.of_below Cc.out).mono Am.out.size));have Bg:=hid hrz;have xq:Hid (z=wB.heap.size∧V.heap.size≤wB.heap.size∧z<Z.heap.size):=hid ⟨hz.symm,Kn.out.size,(af.1 hrz).1⟩;have cP:=eZ d L lv ob.at ob.aA ⟨#[102,117,110,99]⟩ sv fr (some ⟨z,0,none⟩) 3 3 Z (Ey.out.below Cc.out) (HT1.out.mv qi.out (ae _)) D4.out.le hL;obtain ⟨ez,jC⟩:∃ u,jY L ob.at=u:=⟨_,rfl⟩;rw [jC] at cP;have sH:=hid jC;clear jC hbz hrz
    refine OP.r 8 rfl fun K hK=>?_
    go_simp
    try rw [hZ]
    try rw [hz]
    clear hZ hz;refine hK.out _ _ (wC) (fun qy=>?_)
    try simp only [OP.s]
    clear hK K
    refine OP.r 9 rfl fun K hK=>?_
    go_simp
    go_at_call 66
    refine cP.mono ?_;rintro x wP ⟨rfl,wD⟩;have sI:wP.heap[oG]?=some (.cells #[.string jQ,.string jR,.int .i64 jS,.int .i64 jT,.slice jU jV jW] 49 (0,0)):=(wD.2.block _ (af.1 qy).1 (by have:=jJ.out;have:=dP.out.size;omega)).trans qy;have Pv:=hid (qi.out.trans (wD.2.mono qi.out.size));have FN:=hid wD;clear cP wD;dsimp only;refine hK.out _ _ (sI) (fun rM=>?_)
    try simp only [OP.s]
    clear hK K;have hq8:wP.heap[w.heap.size]?=_:=(Pv.out.block w.heap.size (af.1 jD.out).1 (by omega)).trans jD.out;obtain ⟨⟨r0,r1,r2,r3,r4⟩,gz⟩:=aF hq8;have g0:=gz 0;have g1:=gz 1;have g2:=gz 2;have g3:=gz 3;have g4:=gz 4;obtain ⟨WF,DV,Iq,J7,-⟩:=gV (a':=.string ⟨#[102,117,110,99]⟩) (b':=.string sv) (c':=.int .i64 fr) (e':=.int .i64 ez) (f':=.slice (some ⟨z,0,none⟩) 3 3) hq8;have Zy:=(af.1 jD.out).1;have oD:WF.heap[oG]?=some (.cells #[.string jQ,.string jR,.int .i64 jS,.int .i64 jT,.slice jU jV jW] 49 (0,0)):=(J7 oG (by have:=jJ.out;omega)).trans rM;have VY:=hid Iq;have TS:=hid DV;clear gz hq8 Iq J7 Zy
    refine OP.r 10 rfl fun K hK=>?_
    go_simp
    refine hK.out _ _ (oD) (fun xV=>?_)
    try simp only [OP.s]
    clear hK K;clear r0 r1 r2 r3 r4 g0 g1 g2 g3 g4 DV ag jN lT qy rM xV D9 Ea wC sI oD;refine bL (by kernel_rfl) ?_ _
    go_wp2_with fail
    refine aB (v:=.agg #[.string ⟨#[102,117,110,99]⟩,.string sv,.int .i64 fr,.int .i64 ez,.slice (some ⟨z,0,none⟩) 3 3]) (aQ rfl _ _ w.heap.size 49 #[.string ⟨#[102,117,110,99]⟩,.string sv,.int .i64 fr,.int .i64 ez,.slice (some ⟨z,0,none⟩) 3 3] (0,0) _ (by rfl) VY.out Tryz.underlying49 rfl (by kernel_rfl)) rfl ?_;rw [← HQ.out,← TS.out];refine dO hd (dP.out.trans (Pv.out.mono dP.out.size)) FN.out.1 HAT.out.1 HAT.out.2 ?_ ⟨ae _,ae _⟩;have hsz:=dP.out.size;have hqq:=(af.1 jD.out).1;have hze:=xq.out;have hmv:=Am.out.size;have yA:wP.heap[z]?=_:=(FN.out.2.block z hze.2.2 (by omega)).trans Bg.out;refine kN yA (by omega) (fun p j fQ=>?_) (by omega) (ae _);obtain ⟨hp,hn8,hP,hRR,hB⟩:=Ni.out p j fQ;refine ⟨eY,nm.Kq,_,by rw [← sH.out];exact hp,rfl,hn8,rfl,?_⟩;have Zz:=(Ii.out.mv (Mv.of_below (d:=d) Cc.out) (by omega)).mv FN.out.2 (by omega);have ZA:=(Mk.out.mv (Mv.of_below (d:=d) Cc.out) (by omega)).mv FN.out.2 (by omega);have kP:=Zz.kids hP (R:=fun g=>w.heap.size<g) (fun g hg=>by omega) eT [] F1 E1;have kR:=ZA.kids hRR (R:=fun g=>w.heap.size<g) (fun g hg=>by omega) fJ [] F2 E2;have mP:=Ch (Zz.parts _ _ hP).2 (Zz.parts _ _ hP).1 eT;have mR:=Ch (ZA.parts _ _ hRR).2 (ZA.parts _ _ hRR).1 fJ;rw [Ev.out,YH.out] at mP;rw [ZM.out,HE2.out] at mR;obtain ⟨u1,u2⟩:=rU.out ob.pt ob.at hB;have sB:Mv qX.heap.size d qX wP:=yO.out.trans (((Mv.of_below Cc.out).mono yO.out.size).trans (FN.out.2.mono (by have:=yO.out.size;have:=Cc.out.size;omega)))
    have kB:=u2.later (R':=fun g=>w.heap.size<g) (sB.still (ae _) (fun g hg=>by have:=jJ.out;omega)) (fun g hg=>by have:=jJ.out;omega);rw [mP,mR]
    show aO wP _ _ (([.string ⟨#[112,97,114,97,109,115]⟩,.string ⟨#[]⟩,.int .i64 F1,.int .i64 E1,.slice la nn lc]:List Value)++(([.string ⟨#[114,101,115,117,108,116]⟩,.string ⟨#[]⟩,.int .i64 F2,.int .i64 E2,.slice ra (0+1) rc]:List Value)++(([.string jQ,.string jR,.int .i64 jS,.int .i64 jT,.slice jU jV jW]:List Value)++[])))
    rw [jF u1]
    exact ⟨_,_,rfl,kP,_,_,rfl,kR,_,_,rfl,kB,rfl⟩
   ·have hb5:OL.aA=false∧bG L [123] OL.at=true:=by simpa using H5.out
    have HE4:Hid (oR=.ok [] OL.at):=hid (by rw [← HoR.out,hb5.1,aW,ay hb5.2]);have HOB:=hid hb5.1;clear hb5
    go_wp2_with fail
    refine ci.mono ?_;intro x w4 h4;obtain ⟨rfl,hw4⟩:=h4.went HRp.out;have kF:=hid (fG.out.mv.trans (hw4.2.mono fG.out.mv.size));have zx:Hid (Rd d lv oR.at oR.aA w4):=hid (by rw [HE4.out];have h:=hw4.1;rw [HOB.out] at h;exact h);have Zu:=hid (fG.out.list.mv hw4.2 (by have:=dP.out.size;omega));have Bl:Hid (dY W1.heap.size oR (.slice none 0 0) 0 [] w4):=hid (by rw [HE4.out];exact dY.nil _ _ _);have HCR:Hid (0≤1000000):=hid (by omega);clear ci h4 hw4;have c10:=FZ d L lv hL n oR.at oR.aA w4 zx.out (HT1.out.mv kF.out (ae _)) Mj.out.le (fun h=>by have h3:=HN.out (acB.out h);have h5:=Mj.out.ge;omega);rw [Xe.out] at c10
    go_wp2_with fail
    refine c10.mono ?_;rintro x qX ⟨v,rfl,⟨jQ,jR,jS,jT,jU,jV,jW,rfl,kU,ng⟩,J9⟩;have rU:=hid ng;have xA:=hid kU;clear kU;have jb:=hid J9;clear c10 ng J9
    go_upto_region 16 with fail
    obtain ⟨oG,ji⟩:∃ q,qX.heap.size=q:=⟨_,rfl⟩;obtain ⟨wE,zB⟩:∃ V,qX.alloc (.cells #[.string jQ,.string jR,.int .i64 jS,.int .i64 jT,.slice jU jV jW] 49)=V:=⟨_,rfl⟩
    have rF:Below qX.heap.size qX wE:=by rw [← zB];exact (aj _ qX).alloc (ae _) _
    have ni:Hid (wE.heap[oG]?=some (.cells #[.string jQ,.string jR,.int .i64 jS,.int .i64 jT,.slice jU jV jW] 49 (0,0))):=hid (by rw [← zB,← ji];exact aG qX _);have lK:Hid (Mv qX.heap.size d qX wE):=hid (Mv.of_below rF);have jJ:Hid (W1.heap.size≤w4.heap.size∧w4.heap.size≤qX.heap.size∧oG=qX.heap.size):=hid ⟨kF.out.size,jb.out.2.size,ji.symm⟩;rw [zB,ji];have rV:=hid ((kF.out.trans (jb.out.2.mono kF.out.size)).trans ((Mv.of_below rF).mono (aJ kF.out.size jb.out.2.size)));have yg:=hid (jb.out.1.below rF)
    skip
    clear zB rF ji;have Cf:Hid (Mv wE.heap.size d wE wE):=hid (Mv.refl _ _ _);have Zv:=hid (((Zu.out).mv (jb.out.2) (by have:=dP.out.size;omega)).mv lK.out (by have:=dP.out.size;omega));have Zw:=hid (((Bl.out).mv (jb.out.2) (by have:=dP.out.size;omega)).mv lK.out (by have:=dP.out.size;omega));have Nc:Hid (wE.drew.heap[oG]?=some (.cells #[.string jQ,.string jR,.int .i64 jS,.int .i64 jT,.slice jU jV jW] 49 (0,0))):=hid ni.out;have Ii:Hid (dY W1.heap.size OL (.slice la nn lc) nn xs wE.drew):=hid (Zv.out.mv ((Mv.refl _ d _).drewN 1) (by have:=dP.out.size;omega));have Mk:Hid (dY W1.heap.size oR (.slice none 0 0) 0 [] wE.drew):=hid (Zw.out.mv ((Mv.refl _ d _).drewN 1) (by have:=dP.out.size;omega));have Am:Hid (Mv W1.heap.size d W1 wE.drew):=hid (rV.out.drewN 1);have Ey:Hid (Rd d lv ob.at ob.aA wE.drew):=hid yg.out;have yO:Hid (Mv qX.heap.size d qX wE.drew):=hid (lK.out.drewN 1)
    refine aS (S:=fun X=>X.heap[oG]?=some (.cells #[.string jQ,.string jR,.int .i64 jS,.int .i64 jT,.slice jU jV jW] 49 (0,0))) (by kernel_rfl) Nc.out fun ag=>?_
    obtain ⟨V,hV⟩:∃ V,wE.drew=V:=⟨_,rfl⟩;rw [hV] at ag Nc Ii Mk Am Ey yO ⊢;clear hV;refine OP.m 0 rfl (.pointer (some ⟨d,0,none⟩)) ag ?_;simp only [OP.s];refine OP.m 1 rfl (.string sv) ag ?_;simp only [OP.s];refine OP.m 2 rfl (.int .i64 fr) ag ?_;simp only [OP.s];refine OP.m 3 rfl (.slice la nn lc) ag ?_;simp only [OP.s];refine OP.m 5 rfl (.slice none 0 0) ag ?_;simp only [OP.s];refine OP.t 7 rfl (.agg #[.string jQ,.string jR,.int .i64 jS,.int .i64 jT,.slice jU jV jW]) (fun X hX=>by obtain ⟨q0,q1,q2,q3,q4⟩:=(aF hX).1;go_simp) ag ?_;simp only [OP.s];have cA:=Ig ⟨#[112,97,114,97,109,115]⟩ nn xs la lc V Ii.out.own Ii.out.DX HCP.out;obtain ⟨F1,hF1⟩:∃ u,sM nn xs=u:=⟨_,rfl⟩;obtain ⟨E1,hE1⟩:∃ u,xC nn xs=u:=⟨_,rfl⟩;rw [hF1,hE1] at cA;have Ev:=hid hF1;have YH:=hid hE1;clear hF1 hE1
    refine OP.r 4 rfl fun K hK=>?_
    go_simp
    go_at_call 67
    refine cA.mono ?_;rintro x wA ⟨rfl,L5⟩;have D9:wA.heap[oG]?=some (.cells #[.string jQ,.string jR,.int .i64 jS,.int .i64 jT,.slice jU jV jW] 49 (0,0)):=(L5.block _ (af.1 ag).1).trans ag;have HBA:=hid L5;have TI:=hid (Mk.out.mv (Mv.of_below (d:=d) L5) (by have:=dP.out.size;omega));clear cA L5;dsimp only;refine hK.out _ _ (D9) (fun jN=>?_)
    try simp only [OP.s]
    clear hK K;have cB:=Ig ⟨#[114,101,115,117,108,116]⟩ 0 [] none 0 wA TI.out.own TI.out.DX HCR.out;obtain ⟨F2,hF2⟩:∃ u,sM 0 []=u:=⟨_,rfl⟩;obtain ⟨E2,hE2⟩:∃ u,xC 0 []=u:=⟨_,rfl⟩;rw [hF2,hE2] at cB;have ZM:=hid hF2;have HE2:=hid hE2;clear hF2 hE2
    refine OP.r 6 rfl fun K hK=>?_
    go_simp
    go_at_call 67
    refine cB.mono ?_;rintro x wB ⟨rfl,Zx⟩;have Ea:wB.heap[oG]?=some (.cells #[.string jQ,.string jR,.int .i64 jS,.int .i64 jT,.slice jU jV jW] 49 (0,0)):=(Zx.block _ (af.1 jN).1).trans jN;have Kn:=hid (HBA.out.trans (Zx.mono HBA.out.size));clear cB Zx;dsimp only;refine hK.out _ _ (Ea) (fun lT=>?_)
    try simp only [OP.s]
    clear hK K;obtain ⟨z,hz⟩:∃ z,wB.heap.size=z:=⟨_,rfl⟩;obtain ⟨Z,hZ⟩:∃ Z,wB.alloc (.cells #[.string ⟨#[112,97,114,97,109,115]⟩,.string ⟨#[]⟩,.int .i64 F1,.int .i64 E1,.slice la nn lc,.string ⟨#[114,101,115,117,108,116]⟩,.string ⟨#[]⟩,.int .i64 F2,.int .i64 E2,.slice none 0 0,.string jQ,.string jR,.int .i64 jS,.int .i64 jT,.slice jU jV jW] 49)=Z:=⟨_,rfl⟩
    have hbz:Below wB.heap.size wB Z:=by rw [← hZ];exact (aj _ wB).alloc (ae _) _
    have hrz:Z.heap[z]?=some (.cells #[.string ⟨#[112,97,114,97,109,115]⟩,.string ⟨#[]⟩,.int .i64 F1,.int .i64 E1,.slice la nn lc,.string ⟨#[114,101,115,117,108,116]⟩,.string ⟨#[]⟩,.int .i64 F2,.int .i64 E2,.slice none 0 0,.string jQ,.string jR,.int .i64 jS,.int .i64 jT,.slice jU jV jW] 49 (0,0)):=by rw [← hZ,← hz];exact aG wB _
    have wC:Z.heap[oG]?=some (.cells #[.string jQ,.string jR,.int .i64 jS,.int .i64 jT,.slice jU jV jW] 49 (0,0)):=(hbz.block _ (af.1 lT).1).trans lT;have Cc:Hid (Below V.heap.size V Z):=hid (Kn.out.trans (hbz.mono Kn.out.size));have qi:Hid (Mv W1.heap.size d W1 Z):=hid (Am.out.trans ((Mv.of_below Cc.out).mono Am.out.size));have Bg:=hid hrz;have xq:Hid (z=wB.heap.size∧V.heap.size≤wB.heap.size∧z<Z.heap.size):=hid ⟨hz.symm,Kn.out.size,(af.1 hrz).1⟩;have cP:=eZ d L lv ob.at ob.aA ⟨#[102,117,110,99]⟩ sv fr (some ⟨z,0,none⟩) 3 3 Z (Ey.out.below Cc.out) (HT1.out.mv qi.out (ae _)) D4.out.le hL;obtain ⟨ez,jC⟩:∃ u,jY L ob.at=u:=⟨_,rfl⟩;rw [jC] at cP;have sH:=hid jC;clear jC hbz hrz
    refine OP.r 8 rfl fun K hK=>?_
    go_simp
    try rw [hZ]
    try rw [hz]
    clear hZ hz;refine hK.out _ _ (wC) (fun qy=>?_)
    try simp only [OP.s]
    clear hK K
    refine OP.r 9 rfl fun K hK=>?_
    go_simp
    go_at_call 66
    refine cP.mono ?_;rintro x wP ⟨rfl,wD⟩;have sI:wP.heap[oG]?=some (.cells #[.string jQ,.string jR,.int .i64 jS,.int .i64 jT,.slice jU jV jW] 49 (0,0)):=(wD.2.block _ (af.1 qy).1 (by have:=jJ.out;have:=dP.out.size;omega)).trans qy;have Pv:=hid (qi.out.trans (wD.2.mono qi.out.size));have FN:=hid wD;clear cP wD;dsimp only;refine hK.out _ _ (sI) (fun rM=>?_)
    try simp only [OP.s]
    clear hK K;have hq8:wP.heap[w.heap.size]?=_:=(Pv.out.block w.heap.size (af.1 jD.out).1 (by omega)).trans jD.out;obtain ⟨⟨r0,r1,r2,r3,r4⟩,gz⟩:=aF hq8;have g0:=gz 0;have g1:=gz 1;have g2:=gz 2;have g3:=gz 3;have g4:=gz 4;obtain ⟨WF,DV,Iq,J7,-⟩:=gV (a':=.string ⟨#[102,117,110,99]⟩) (b':=.string sv) (c':=.int .i64 fr) (e':=.int .i64 ez) (f':=.slice (some ⟨z,0,none⟩) 3 3) hq8;have Zy:=(af.1 jD.out).1;have oD:WF.heap[oG]?=some (.cells #[.string jQ,.string jR,.int .i64 jS,.int .i64 jT,.slice jU jV jW] 49 (0,0)):=(J7 oG (by have:=jJ.out;omega)).trans rM;have VY:=hid Iq;have TS:=hid DV;clear gz hq8 Iq J7 Zy
    refine OP.r 10 rfl fun K hK=>?_
    go_simp
    refine hK.out _ _ (oD) (fun xV=>?_)
    try simp only [OP.s]
    clear hK K;clear r0 r1 r2 r3 r4 g0 g1 g2 g3 g4 DV ag jN lT qy rM xV D9 Ea wC sI oD;refine bL (by kernel_rfl) ?_ _
    go_wp2_with fail
    refine aB (v:=.agg #[.string ⟨#[102,117,110,99]⟩,.string sv,.int .i64 fr,.int .i64 ez,.slice (some ⟨z,0,none⟩) 3 3]) (aQ rfl _ _ w.heap.size 49 #[.string ⟨#[102,117,110,99]⟩,.string sv,.int .i64 fr,.int .i64 ez,.slice (some ⟨z,0,none⟩) 3 3] (0,0) _ (by rfl) VY.out Tryz.underlying49 rfl (by kernel_rfl)) rfl ?_;rw [← HQ.out,← TS.out];refine dO hd (dP.out.trans (Pv.out.mono dP.out.size)) FN.out.1 HAT.out.1 HAT.out.2 ?_ ⟨ae _,ae _⟩;have hsz:=dP.out.size;have hqq:=(af.1 jD.out).1;have hze:=xq.out;have hmv:=Am.out.size;have yA:wP.heap[z]?=_:=(FN.out.2.block z hze.2.2 (by omega)).trans Bg.out;refine kN yA (by omega) (fun p j fQ=>?_) (by omega) (ae _);obtain ⟨hp,hn8,hP,hRR,hB⟩:=Ni.out p j fQ;refine ⟨eY,nm.Kq,_,by rw [← sH.out];exact hp,rfl,hn8,rfl,?_⟩;have Zz:=(Ii.out.mv (Mv.of_below (d:=d) Cc.out) (by omega)).mv FN.out.2 (by omega);have ZA:=(Mk.out.mv (Mv.of_below (d:=d) Cc.out) (by omega)).mv FN.out.2 (by omega);have kP:=Zz.kids hP (R:=fun g=>w.heap.size<g) (fun g hg=>by omega) eT [] F1 E1;have kR:=ZA.kids hRR (R:=fun g=>w.heap.size<g) (fun g hg=>by omega) fJ [] F2 E2;have mP:=Ch (Zz.parts _ _ hP).2 (Zz.parts _ _ hP).1 eT;have mR:=Ch (ZA.parts _ _ hRR).2 (ZA.parts _ _ hRR).1 fJ;rw [Ev.out,YH.out] at mP;rw [ZM.out,HE2.out] at mR;obtain ⟨u1,u2⟩:=rU.out ob.pt ob.at hB;have sB:Mv qX.heap.size d qX wP:=yO.out.trans (((Mv.of_below Cc.out).mono yO.out.size).trans (FN.out.2.mono (by have:=yO.out.size;have:=Cc.out.size;omega)))
    have kB:=u2.later (R':=fun g=>w.heap.size<g) (sB.still (ae _) (fun g hg=>by have:=jJ.out;omega)) (fun g hg=>by have:=jJ.out;omega);rw [mP,mR]
    show aO wP _ _ (([.string ⟨#[112,97,114,97,109,115]⟩,.string ⟨#[]⟩,.int .i64 F1,.int .i64 E1,.slice la nn lc]:List Value)++(([.string ⟨#[114,101,115,117,108,116]⟩,.string ⟨#[]⟩,.int .i64 F2,.int .i64 E2,.slice none 0 0]:List Value)++(([.string jQ,.string jR,.int .i64 jS,.int .i64 jT,.slice jU jV jW]:List Value)++[])))
    rw [jF u1]
    exact ⟨_,_,rfl,kP,_,_,rfl,kR,_,_,rfl,kB,rfl⟩
end T
end Go.Proofs.YtojoahlpgmnbnaaGreatDoor
