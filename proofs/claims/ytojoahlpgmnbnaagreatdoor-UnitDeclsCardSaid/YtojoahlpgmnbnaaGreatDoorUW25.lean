/- What the claim needs of the texts TFunc. -/
import Derived.Test.YtojoahlpgmnbnaaGreatDoorUWOp
import Derived.Test.YtojoahlpgmnbnaaGreatDoorUW23
import Derived.Test.YtojoahlpgmnbnaaGreatDoorUW24
set_option maxRecDepth 20000
set_option maxHeartbeats 16000000
namespace Go.Proofs.YtojoahlpgmnbnaaGreatDoor
namespace T
open Go.RowKit
open Go.Lib hiding intOf
open U S L
theorem BF (L:List bn) (M n i:Nat) (acc:List Pt):params L M (n+1) i acc =
  (param L M rq i).next fun p j=>if bH L [41] j then .ok (acc++[p]) (j+1) else (bJ L [44] j).next fun _ k=>params L M n k (acc++[p]):=rfl
theorem yH (L:List bn) (M:Nat):∀ (n i:Nat) (acc:List Pt),i≤L.length→Fw L i (params L M n i acc)
 | 0,i,acc,hi=>⟨ae _,hi⟩
 | n+1,i,acc,hi=>by
  rw [BF];refine ((xq M rq hi).next fun p j _ _ hj=>?_).toFw
  split
  ·rename_i h
   exact .ok (dY _) (bR h) _
  ·exact (((bU _ hj).next fun _ k _ _ hk=>yH L M n k _ hk)).toFw
def Out.ls:Out (List Pt)→List Pt
 | .ok l _=>l
 | .bad _=>[]
theorem Xy {o:Out (List Pt)} (h:o.az=false):o=.ok o.ls o.at:=by
 cases o with
 | ok l j=>rfl
 | bad j=>cases h
theorem dX.kids {B:Nat} {o:Out (List Pt)} {n:Nat} {xs:List Value} {W:World} {a:Option Addr} {c j:Nat} {ks:List Pt} {R:Nat→Prop} (h:dX B o (.slice a n c) n xs W) (ho:o=.ok ks j) (hR:∀ g,B≤g→R g) (K T:By) (F E:Int):aU W R (.mk K T F E ks) (.slice a n c):=by
 obtain ⟨e1,e2⟩:=h.parts ks j ho
 rcases h.own.2 with ⟨h1,h2⟩|⟨g,cap,cur,h1,h2,h3,h4,_,_,h6⟩
 ·cases h1
  have hk:ks=[]:=eF (by omega);subst hk
  exact ⟨_,_,by rw [dQ,← h2],by omega,.inl rfl⟩
 ·cases h1
  refine ⟨_,_,by rw [e1],by omega,.inr ⟨g,0,xs,rfl,hR g h2,fun j u hj=>?_,aP.later (fun _ _ _=>rfl) (fun g hg=>hR g hg.1) _ _ e2⟩⟩
  unfold World.cell?
  rw [h3];rw [← h6,List.getElem?_take] at hj
  split at hj
  ·simpa using hj
  ·cases hj
theorem rC {W:World} {R:Nat→Prop}:∀ {l:List Pt} {xs:List Value} {i:Nat} {K T:By} {F E:Int} {ks:List Pt},aP W R l xs→l[i]?=some (.mk K T F E ks)→xs[i*5+2]?=some (.int .i64 F)∧xs[i*5+3]?=some (.int .i64 E)
 | [],_,_,_,_,_,_,_,_,h=>by simp at h
 | .mk k t f e ks :: r,xs,0,K,T,F,E,ks',h,hi=>by
  obtain ⟨lv,rest,rfl,h2,h3⟩:=h;simp only [List.getElem?_cons_zero,bS,Pt.mk.injEq] at hi;obtain ⟨_,_,rfl,rfl,_⟩:=hi
  exact ⟨rfl,rfl⟩
 | p :: r,xs,i+1,K,T,F,E,ks',h,hi=>by
  obtain ⟨lv,rest,rfl,h2,h3⟩:=h;rw [ig] at hi;obtain ⟨a1,a2⟩:=rC h3 hi;have hl:=eO p lv
  constructor
  ·rw [aI (by omega),hl,show (i+1)*5+2 - 5=i*5+2 by omega];exact a1
  ·rw [aI (by omega),hl,show (i+1)*5+3 - 5=i*5+3 by omega];exact a2
theorem Cw {W:World} {R:Nat→Prop} {ps:List Pt} {xs:List Value} {n:Nat} (hp:aP W R ps xs) (hn:ps.length=n) (K:By):mJ K ps=.mk K [] (sS n xs) (xM n xs) ps:=by
 cases ps with
 | nil =>
  have:n=0:=by simpa using hn.symm
  subst this
  rfl
 | cons p r =>
  obtain ⟨k,t,f,e,ks⟩:=p
  have h0:n≠0:=by rw [← hn];simp
  have h1:=(rC (i:=0) hp rfl).1
  unfold mJ sS xM
  rw [ai h0,ai h0,show xs[2]?=some (.int .i64 f) from h1]
  have hl:(Pt.mk k t f e ks :: r).getLast?=(Pt.mk k t f e ks :: r)[n - 1]?:=by rw [List.getLast?_eq_getElem?,hn]
  show Pt.mk K [] f (match (Pt.mk k t f e ks :: r).getLast? with|some (.mk _ _ _ e' _)=>e'|none=>0) (Pt.mk k t f e ks :: r)=_
  rw [hl]
  have hlt:n - 1<(Pt.mk k t f e ks :: r).length:=by omega
  cases hpl:(Pt.mk k t f e ks :: r)[n - 1] with
  | mk k' t' f' e' ks' =>
   have hg:(Pt.mk k t f e ks :: r)[n - 1]?=some (.mk k' t' f' e' ks'):=by rw [aB hlt,hpl]
   rw [hg,(rC hp hg).2]
   rfl
theorem Iz (d:Nat) (L:List bn) (lv:Value) (hL:L.length≤1000000) (n i:Nat) (b:Bool) (w:World) (hR:Rd d lv i b w) (hT:Tk d L lv w) (hi:i≤L.length) (hn:b=false→8*(L.length - i)+5≤n) :
  Calls Tryz.prog 41 #[.pointer (some ⟨d,0,none⟩)] w (Reads d lv (start b i (si L n i)) w):=by
 obtain ⟨O,hO⟩:∃ O,start b i (si L n i)=O:=⟨_,rfl⟩;have HO:=hid hO;rw [hO];clear hO;have hd:=hR.lt;obtain ⟨W1,hW1⟩:∃ W1,w.alloc gu=W1:=⟨_,rfl⟩
 have hb1:Below w.heap.size w W1:=by rw [← hW1];exact (ah _ w).alloc (ae _) _
 have dN:=hid (Mv.of_below (d:=d) hb1)
 have hq1:W1.heap[w.heap.size]?=some (.cells #[.string ⟨#[]⟩,.string ⟨#[]⟩,.int .i64 0,.int .i64 0,.slice none 0 0] 49 (0,0)):=by rw [← hW1];exact aG w _
 have lK:Rd d lv i b W1:=hR.below hb1;have hT1:=hT.mv (Mv.of_below hb1) (ae _);have c1:=nC d L lv i b W1 lK hT1;obtain ⟨fr,hfr⟩:∃ fr,bQ L i=fr:=⟨_,rfl⟩;rw [hfr] at c1;have AM:=hid hfr;have HW1:=hid hW1;have jC:=hid hq1;have HR1:=hid lK;have HT1:=hid hT1;have HT0:=hid hT;have HN:=hid hn;obtain ⟨Q,hQ⟩:∃ Q,Reads d lv O w=Q:=⟨_,rfl⟩;have HQ:=hid hQ;rw [hQ];clear hW1 hq1 hb1 lK hT1 hfr hn hQ hR hT
 go_enter Tryz.func41,Tryz.ntmps41
 go_wp2_with fail
 rw [HW1.out];refine c1.mono ?_;intro x w2 h2;obtain ⟨rfl,hw2⟩:=h2.went HR1.out;have kG:=hid hw2.2;have HR2:=hid hw2.1;clear c1 h2 hw2;obtain ⟨om,mH⟩:∃ u,start b i (bJ L eY i)=u:=⟨_,rfl⟩;obtain ⟨nm,hnm⟩:∃ u,start om.az om.at (gG L om.at)=u:=⟨_,rfl⟩;obtain ⟨op,hop⟩:∃ u,start nm.az nm.at (bJ L [40] nm.at)=u:=⟨_,rfl⟩;obtain ⟨OL,BB⟩:∃ u,start op.az op.at (if bH L [41] op.at then .ok [] (op.at+1) else params L n n op.at [])=u:=⟨_,rfl⟩;obtain ⟨oR,TX⟩:∃ u,start OL.az OL.at (if bH L [123] OL.at then .ok [] OL.at else (typed L n OL.at).next fun x q=>.ok [x] q:Out (List Pt))=u:=⟨_,rfl⟩;obtain ⟨ob,fu⟩:∃ u,start oR.az oR.at (block L n oR.at)=u:=⟨_,rfl⟩;obtain ⟨sv,hsv⟩:∃ u,xI nm=u:=⟨_,rfl⟩;have sP:Hid (pI L i b (start b i (Out.ok () i:Out Unit))):=hid (.begun hi ⟨ae _,hi⟩);have qx:Hid (pI L i b om):=hid (by rw [← mH];exact .begun hi (bU _ hi).toFw);have rU:Hid (pI L i b nm):=hid (by rw [← hnm];exact qx.out.step (jo qx.out.le).toFw);have P4:Hid (pI L i b op):=hid (by rw [← hop];exact rU.out.step (bU _ rU.out.le).toFw)
 have BR:Hid (pI L i b OL):=hid (by
  rw [← BB];refine P4.out.step ?_
  split
  ·rename_i h
   exact .ok (dY _) (bR h) _
  ·exact yH L n n _ _ P4.out.le)
 have MH:Hid (pI L i b oR):=hid (by
  rw [← TX];refine BR.out.step ?_
  split
  ·exact .ok (ae _) BR.out.le _
  ·exact ((jq n _ BR.out.le).next fun x q _ _ hq=>Fw.ok (ae _) hq _).toFw)
 have Eg:Hid (pI L i b ob):=hid (by rw [← fu];exact MH.out.step ((nG L n).block _ MH.out.le).toFw);have acR:Hid (oR.az=false→b=false):=hid (fun h=>MH.out.so h)
 have acS:Hid (op.az=false→1≤op.at∧b=false):=hid (fun h=>by
  refine ⟨?_,P4.out.so h⟩;rw [← hop] at h ⊢;obtain ⟨h1,h2⟩:=jl h;rw [h2] at h ⊢;have:=(bU [40] rU.out.le).gt h
  omega)
 have nU:Hid (O=ob.next fun b r=>part L eY nm.KF fr [mJ eT OL.ls,mJ fF oR.ls,b] r):=hid (by
  rw [← HO.out,← AM.out]
  have h0:start b i (si L n i)=om.next fun _ j=>(gG L j).next fun s k=>(bJ L [40] k).next fun _ m =>
    (if bH L [41] m then .ok [] (m+1) else params L n n m []).next fun ps o=>(if bH L [123] o then .ok [] o else (typed L n o).next fun x q=>.ok [x] q).next fun rs q=>(block L n q).next fun b r=>part L eY s (bQ L i) [mJ eT ps,mJ fF rs,b] r:=by
   rw [← mH,← uP];rfl
  rw [h0]
  cases om with
  | bad j=>subst hnm;subst hop;subst BB;subst TX;subst fu;rfl
  | ok u j =>
   have hnm:gG L j=nm:=hnm
   show ((gG L j).next _)=_
   rw [hnm]
   cases nm with
   | bad j=>subst hop;subst BB;subst TX;subst fu;rfl
   | ok s k =>
    have hop:bJ L [40] k=op:=hop
    show ((bJ L [40] k).next _)=_
    rw [hop]
    cases op with
    | bad j=>subst BB;subst TX;subst fu;rfl
    | ok u m =>
     have BB:(if bH L [41] m then .ok [] (m+1) else params L n n m [])=OL:=BB
     show ((if bH L [41] m then .ok [] (m+1) else params L n n m []:Out (List Pt)).next _)=_
     rw [BB]
     cases OL with
     | bad j=>subst TX;subst fu;rfl
     | ok ps o =>
      have TX:(if bH L [123] o then .ok [] o else (typed L n o).next fun x q=>.ok [x] q:Out (List Pt))=oR:=TX
      show ((if bH L [123] o then .ok [] o else (typed L n o).next fun x q=>.ok [x] q:Out (List Pt)).next _)=_
      rw [TX]
      cases oR with
      | bad j=>subst fu;rfl
      | ok rs q =>
       have fu:block L n q=ob:=fu
       show ((block L n q).next _)=_
       rw [fu]
       rfl)
 have HAT:Hid (O.at=ob.at∧O.az=ob.az):=hid (by rw [nU.out];cases ob <;> exact ⟨rfl,rfl⟩)
 have NI:Hid (∀ p j,O=.ok p j→p=.mk eY nm.KF fr (jZ L ob.at) [mJ eT OL.ls,mJ fF oR.ls,ob.pt]∧aX nm.KF=sv∧OL=.ok OL.ls OL.at∧oR=.ok oR.ls oR.at∧ob=.ok ob.pt ob.at):=hid (by
  intro p j fK;rw [nU.out] at fK
  have hb:ob.az=false:=by
   cases ob with
   | bad j=>cases fK
   | ok a k=>rfl
  have h1:=jF hb;have h2:=hb;rw [← fu] at h2;have h3:=(jl h2).1;have h4:=h3;rw [← TX] at h4;have h5:=(jl h4).1;have h6:=h5;rw [← BB] at h6;have h7:=(jl h6).1;rw [← hop] at h7;obtain ⟨j2,h8⟩:=TW (jl h7).1;rw [h1] at fK;simp only [Out.next,part,Out.ok.injEq] at fK;refine ⟨fK.1.symm,?_,Xy h5,Xy h3,h1⟩;rw [← hsv]
  rw [h8];rfl)
 obtain ⟨iP,hi0,hz0,hz1,hz2⟩:=nY AU;have Ih:=hid mH;have Ue:=hid hnm;have Tx:=hid hsv;have El:=hid hop;have Zw:=hid BB;have HoR:=hid TX;have Xv:=hid fu;clear mH hnm hsv hop BB TX fu;have c3:=jc d L lv i b eY w2 HR2.out (HT1.out.mv kG.out (ae _)) (by have:=sP.out.le;omega);rw [Ih.out,show aX eY=⟨#[102,117,110,99]⟩ from rfl] at c3
 go_wp2_with fail
 refine c3.mono ?_;rintro x w3 ⟨rfl,hw3⟩;have lh:=hid (kG.out.trans (hw3.2.mono kG.out.size));have HR3:=hid hw3.1
 skip
 clear c3 hw3;have c4:=nN d L lv om.at om.az w3 HR3.out (HT1.out.mv lh.out (ae _)) (by have:=qx.out.le;omega);rw [Ue.out,Tx.out] at c4
 go_wp2_with fail
 refine c4.mono ?_;rintro x w4 ⟨rfl,hw4⟩;have mO:=hid (lh.out.trans (hw4.2.mono lh.out.size));have HR4:=hid hw4.1
 skip
 clear c4 hw4;have c5:=jc d L lv nm.at nm.az [40] w4 HR4.out (HT1.out.mv mO.out (ae _)) (by have:=rU.out.le;omega);rw [El.out,show aX [40]=⟨#[40]⟩ from rfl] at c5
 go_wp2_with fail
 refine c5.mono ?_;rintro x w5 ⟨rfl,jr⟩;have mU:=hid (mO.out.trans (jr.2.mono mO.out.size));have vD:=hid jr.1
 skip
 clear c5 jr;have c8:=fB d L lv op.at op.az [41] w5 vD.out (HT1.out.mv mU.out (ae _)) (by have:=P4.out.le;omega);rw [show aX [41]=⟨#[41]⟩ from rfl] at c8;obtain ⟨R3,Eu⟩:∃ R,(!op.az&&bH L [41] op.at)=R:=⟨_,rfl⟩;rw [Eu] at c8;have HR3:=hid Eu;clear Eu
 go_wp2_with fail
 refine c8.mono ?_;rintro x w8 ⟨rfl,hw8⟩;have lD:=hid (mU.out.trans (hw8.2.mono mU.out.size))
 have Ee:Hid (jQ d L lv W1 OL (fun m j l=>params L n m j l) 0 n R3 (start op.az (if R3=true then op.at+1 else op.at) (.ok [] (if R3=true then op.at+1 else op.at))) (.slice none 0 0) 0 [] n w8):=hid (by
  have h1:(start op.az (if R3=true then op.at+1 else op.at) (.ok [] (if R3=true then op.at+1 else op.at):Out (List Pt))).at=(if R3=true then op.at+1 else op.at):=by cases op.az <;> rfl
  have h2:(start op.az (if R3=true then op.at+1 else op.at) (.ok [] (if R3=true then op.at+1 else op.at):Out (List Pt))).az=op.az:=by cases op.az <;> rfl
  have h3:=HR3.out
  refine ⟨?_,by rw [h1,h2];exact hw8.1,lD.out,(dX.nil _ (if R3=true then op.at+1 else op.at) _).out (fun l j h=>?_),?_,aM _,?_,fun hr hb=>?_⟩
  ·rw [← Zw.out]
   cases hb:op.az
   ·rw [hb] at h3
    have h3:bH L [41] op.at=R3:=h3;rw [aZ,aZ,h3]
    cases R3 <;> rfl
   ·rw [hb] at h3
    have h3:false=R3:=h3;rw [← h3];rfl
  ·cases hb:op.az
   ·rw [hb] at h
    exact ⟨_,by cases h;rfl⟩
   ·rw [hb] at h
    cases h
  ·rw [h1]
   split
   ·rename_i hr
    rw [hr] at h3
    have h4:op.az=false∧bH L [41] op.at=true:=by simpa using h3
    exact bR h4.2
   ·exact P4.out.le
  ·rw [h1,h2]
   cases hb:op.az
   ·have:=(acS.out hb).1
    rw [ai (by decide)]
    split <;> omega
   ·rw [au rfl];exact aM _
  ·rw [h1,hr,ai (by decide)]
   rw [h2] at hb;have h6:=HN.out (acS.out hb).2;have h7:=P4.out.ge
   omega)
 clear c8 hw8
 go_wp2_with fail
 go_loopw [5,6] (fun av fv wr=>∃ (fin:Bool) (o:Out (List Pt)) (v:Value) (nn:Nat) (xs:List Value) (mm:Nat),av=v∧fv=.bool fin∧Hid (jQ d L lv W1 OL (fun m j l=>params L n m j l) 0 n fin o v nn xs mm wr)) (fun _ _ wr=>(L.length+1 - atR d wr)*2+nZ d wr)
 case atStart=>exact ⟨R3,_,_,0,[],n,rfl,rfl,Ee⟩
 case round =>
  clear Ee;obtain ⟨fin,o,v,nn,xs,mm,rfl,rfl,fC⟩:=hrel;obtain ⟨la,lc,Zx⟩:=fC.out.list.form;subst Zx
  cases fin
  focus
   cases fu:o.az
   ·skip
    obtain ⟨l,hl⟩:=yB fu;obtain ⟨oa,hoa⟩:∃ u,o.at=u:=⟨_,rfl⟩;rw [hoa] at hl;subst hl;have hfu2:=fC.out.fuel rfl rfl;have hle:oa≤L.length:=fC.out.le;have hlo:0≤oa:=fC.out.lo;have hcn:nn+1≤oa:=fC.out.cnt;have Zy:8*(L.length - oa)+5≤mm:=hfu2.1;have Zz:mm≤n:=hfu2.2;obtain ⟨m',rfl⟩:∃ m',mm=m'+1:=⟨mm - 1,by omega⟩;obtain ⟨ob,pO⟩:∃ u,start false oa (param L n rq oa)=u:=⟨_,rfl⟩;have sQ:Hid (wI L oa ob):=hid (by rw [← pO,aZ];exact xq n rq hle)
    have yA:Hid (OL=ob.next fun a j=>if bH L [41] j then .ok (l++[a]) (j+1) else (bJ L [44] j).next fun _ k=>params L n m' k (l++[a])):=hid (by
     have h:=fC.out.out;rw [ai (by decide)] at h;rw [h,← pO,aZ]
     exact BF L n m' oa l)
    have Bz:=hid (HT1.out.mv fC.out.mv (ae _));have BQ:Hid (Rd d lv oa false wr):=hid fC.out.rd;have BC:Hid (dX W1.heap.size (.ok l oa) (.slice la nn lc) nn xs wr):=hid fC.out.list;have pQ:=hid fC.out.mv;have yD:Hid (atR d wr=oa):=hid BQ.out.at;have AV:Hid (nZ d wr=1):=hid BQ.out.good;have cb:=FW d L lv hL n rq oa false wr BQ.out Bz.out hle (fun _=>by omega);rw [pO,show aX rq=⟨#[112,97,114,97,109]⟩ from rfl] at cb;have age:=hid pO;have k2:=BQ.out.c2;clear pO hfu2 fu hoa
    go_wp2_with fail
    refine cb.mono ?_;rintro x v5 ⟨v,rfl,⟨kb,tb,fb,eb,ab,nb,kQ,rfl,hnb,hvb⟩,jr⟩;have Ef:dX W1.heap.size (.ok l oa) (.slice la nn lc) nn xs (v5.alloc (.cells #[.string kb,.string tb,.int .i64 fb,.int .i64 eb,.slice ab nb kQ] 49)):=(BC.out.mv jr.2 (by have:=dN.out.size;omega)).mv (Mv.of_below (d:=d) ((ah _ v5).alloc (ae _) _)) (by have:=dN.out.size;omega);have hbx:Below v5.heap.size v5 (v5.alloc (.cells #[.string kb,.string tb,.int .i64 fb,.int .i64 eb,.slice ab nb kQ] 49)):=(ah _ v5).alloc (ae _) _
    have hsx:W1.heap.size≤(v5.alloc (.cells #[.string kb,.string tb,.int .i64 fb,.int .i64 eb,.slice ab nb kQ] 49)).heap.size:=by have:=jr.2.size;have:=pQ.out.size;have:=hbx.size;omega
    have Il:=hid hvb;have qE:=hid jr;have yE:=hid Ef;have xL:=hid hbx;clear cb hvb jr Ef hbx hnb k2
    go_wp2_with (at_builtin;refine dD _ rfl _ _ 47 rfl W1.heap.size 49 iP _ 5 72 Tryz.underlying47 hi0 hz0 hz1 hz2 rfl (by decide) _ nn xs rfl yE.out.own ⟨v5.heap.size,0,none⟩ 1 1 [.string kb,.string tb,.int .i64 fb,.int .i64 eb,.slice ab nb kQ] rfl rfl (qz (aG v5 _)) qy (by unfold maxLen;omega) (by omega) hsx ?_)
    intro v' w7 bP aN _ mg
    have hrow:v'.ownBlock=(Value.slice la nn lc).ownBlock∨v'.ownBlock=some (v5.alloc (.cells #[.string kb,.string tb,.int .i64 fb,.int .i64 eb,.slice ab nb kQ] 49)).heap.size:=by simpa using mg
    clear mg
    have Ew:Hid (∀ o':Out (List Pt),(∀ l' j',o'=.ok l' j'→∃ p jp,ob=.ok p jp∧l'=l++[p])→dX W1.heap.size o' v' (nn+1) (xs++[.string kb,.string tb,.int .i64 fb,.int .i64 eb,.slice ab nb kQ]) w7):=hid (fun o' ho'=>yE.out.snoc BC.out (ae _) pQ.out.size Il.out xL.out bP aN hrow (fun l' j' hl'=>by
     obtain ⟨p,jp,h1,h2⟩:=ho' l' j' hl'
     exact ⟨l,oa,p,jp,rfl,h1,h2⟩))
    have hown1:∀ k,(Value.slice la nn lc).ownBlock=some k→W1.heap.size≤k:=fun k hk=>(yE.out.own.lt k hk).1
    have hd1:d<W1.heap.size:=by have:=dN.out.size;omega
    have sH:Hid (Rd d lv ob.at ob.az w7):=hid (by
     have h:=qE.out.1.below xL.out
     exact (aN.block d h.lt (fun h'=>by have:=hown1 d h'.symm;omega)).trans h)
    have iK:Hid (Mv W1.heap.size d W1 w7):=hid (pQ.out.trans ((qE.out.2.mono pQ.out.size).trans (((Mv.of_below xL.out).mono (by have:=qE.out.2.size;have:=pQ.out.size;omega)).trans ⟨aN.os,aN.tape,aN.output,aN.size,fun k hk _=>aN.block k (by omega) (fun h'=>by have:=hown1 k h'.symm;omega)⟩)));have c8:=fB d L lv ob.at ob.az [41] w7 sH.out (HT1.out.mv iK.out (ae _)) (by have:=sQ.out.le;omega);rw [show aX [41]=⟨#[41]⟩ from rfl] at c8;obtain ⟨R9,Mr⟩:∃ R,(!ob.az&&bH L [41] ob.at)=R:=⟨_,rfl⟩;rw [Mr] at c8;have H9:=hid Mr;clear bP aN hrow hown1 hd1 Mr hsx
    cases R9
    ·obtain ⟨om,mH⟩:∃ u,start ob.az ob.at (bJ L [44] ob.at)=u:=⟨_,rfl⟩
     have Iq:Hid (ob.at≤om.at∧om.at≤L.length∧(om.az=false→ob.az=false∧ob.at<om.at)):=hid (by
      rw [← mH]
      cases hb:ob.az
      ·exact ⟨(bU _ sQ.out.le).ge,(bU _ sQ.out.le).le,fun h=>⟨rfl,(bU _ sQ.out.le).gt h⟩⟩
      ·exact ⟨ae _,sQ.out.le,fun h=>by cases h⟩)
     have uG:Hid (OL=(om.next fun _ k=>Out.ok (l++[ob.pt]) k).next fun acc k=>params L n m' k acc):=hid (by
      rw [yA.out,qZ,← mH];have h9:=H9.out
      cases ob with
      | bad j=>rfl
      | ok a j =>
       have h9:bH L [41] j=false:=by simpa [Out.az,Out.at] using h9
       show (if bH L [41] j=true then _ else _)=_
       rw [ai (by rw [h9];decide)]
       rfl)
     have nU:Hid ((om.next fun _ k=>Out.ok (l++[ob.pt]) k).at=om.at∧(om.next fun _ k=>Out.ok (l++[ob.pt]) k).az=om.az):=hid (by cases om <;> exact ⟨rfl,rfl⟩)
     have IK:Hid (dX W1.heap.size (om.next fun _ k=>Out.ok (l++[ob.pt]) k) v' (nn+1) (xs++[.string kb,.string tb,.int .i64 fb,.int .i64 eb,.slice ab nb kQ]) w7):=hid (Ew.out _ (fun l' j' hl'=>by
      cases om with
      | bad k=>cases hl'
      | ok u k =>
       cases hl'
       exact ⟨ob.pt,ob.at,jF (Iq.out.2.2 rfl).1,rfl⟩))
     have Ih:=hid mH;clear mH
     go_wp2_with fail
     refine c8.mono ?_;rintro x w8 ⟨rfl,hw8⟩;have hw8:kz d lv ob.at ob.az w7 w8:=hw8;have lD:=hid (iK.out.trans (hw8.2.mono iK.out.size));have c9:=jc d L lv ob.at ob.az [44] w8 hw8.1 (HT1.out.mv lD.out (ae _)) (by have:=sQ.out.le;omega);rw [Ih.out,show aX [44]=⟨#[44]⟩ from rfl] at c9;have PT:=hid hw8;clear c8 hw8
     go_wp2_with fail
     refine c9.mono ?_;rintro x w9 ⟨rfl,dU⟩;have jw:=hid (lD.out.trans (dU.2.mono lD.out.size))
     have oJ:Hid (jQ d L lv W1 OL (fun m j l=>params L n m j l) (0) (n) false (om.next fun _ k=>Out.ok (l++[ob.pt]) k) v' (nn+1) (xs++[.string kb,.string tb,.int .i64 fb,.int .i64 eb,.slice ab nb kQ]) m' w9):=hid ⟨by rw [ai (by decide)];exact uG.out,by rw [nU.out.1,nU.out.2];exact dU.1,jw.out,(IK.out.mv PT.out.2 (by have:=dN.out.size;omega)).mv dU.2 (by have:=dN.out.size;omega),by rw [nU.out.1];exact Iq.out.2.1,by rw [nU.out.1];have:=Iq.out.1;have:=sQ.out.ge;omega,by
      rw [nU.out.1,nU.out.2];have h1:=Iq.out.1;have h2:=sQ.out.ge
      cases hb:om.az
      ·have h3:=Iq.out.2.2 hb
       have h4:=sQ.out.gt h3.1;rw [ai (by decide)];omega
      ·rw [au rfl];omega,fun _ hb=>by
      rw [nU.out.2] at hb;rw [nU.out.1];have h3:=Iq.out.2.2 hb;have h4:=sQ.out.gt h3.1;have h5:=Iq.out.2.1
      omega⟩
     have sU:Hid (atR d w9=om.at∧nZ d w9=if om.az then 0 else 1):=hid ⟨dU.1.at,dU.1.good⟩;clear c9 dU
     go_wp2_with fail
     go_roundw
     case rel=>exact ⟨false,_,_,_,_,m',rfl,rfl,oJ⟩
     case measure =>
      rw [sU.out.1,sU.out.2,yD.out,AV.out];have h1:=Iq.out.1;have h2:=sQ.out.ge
      cases hb:om.az
      ·have h3:=Iq.out.2.2 hb
       have h4:=sQ.out.gt h3.1;rw [ai (by decide)];omega
      ·rw [au rfl];omega
    ·have oP:ob.az=false∧bH L [41] ob.at=true:=by simpa using H9.out
     have Lv:ob.at<L.length:=bR oP.2
     have uG:Hid (OL=.ok (l++[ob.pt]) (ob.at+1)):=hid (by
      rw [yA.out]
      cases ob with
      | bad j=>cases oP.1
      | ok a j =>
       show (if bH L [41] j=true then _ else _)=_
       rw [au (show bH L [41] j=true from oP.2)];rfl)
     have IK:Hid (dX W1.heap.size (Out.ok (l++[ob.pt]) (ob.at+1)) v' (nn+1) (xs++[.string kb,.string tb,.int .i64 fb,.int .i64 eb,.slice ab nb kQ]) w7):=hid (Ew.out _ (fun l' j' hl'=>by
      cases hl'
      exact ⟨ob.pt,ob.at,jF oP.1,rfl⟩))
     have vz:=hid oP;have ZA:=hid Lv;clear oP Lv
     go_wp2_with fail
     refine c8.mono ?_;rintro x w8 ⟨rfl,hw8⟩;have hw8:kz d lv (ob.at+1) ob.az w7 w8:=hw8;rw [vz.out.1] at hw8;have lD:=hid (iK.out.trans (hw8.2.mono iK.out.size));have oJ:Hid (jQ d L lv W1 OL (fun m j l=>params L n m j l) (0) (n) true (Out.ok (l++[ob.pt]) (ob.at+1)) v' (nn+1) (xs++[.string kb,.string tb,.int .i64 fb,.int .i64 eb,.slice ab nb kQ]) m' w8):=hid ⟨by rw [au rfl];exact uG.out,hw8.1,lD.out,IK.out.mv hw8.2 (by have:=dN.out.size;omega),ZA.out,by show 0≤ob.at+1;have:=sQ.out.ge;omega,by show nn+1+1≤ob.at+1;have:=sQ.out.gt vz.out.1;omega,fun h=>by cases h⟩;have sU:Hid (atR d w8=ob.at+1∧nZ d w8=1):=hid ⟨hw8.1.at,hw8.1.good⟩;clear c8 hw8
     go_wp2_with fail
     go_roundw
     case rel=>exact ⟨true,_,_,_,_,m',rfl,rfl,oJ⟩
     case measure =>
      rw [sU.out.1,sU.out.2,yD.out,AV.out];have h2:=sQ.out.ge
      omega
   have hox:OL=o:=by
    rw [fC.out.out,ai (by decide)]
    cases o with
    | ok a j=>cases fu
    | bad j=>rfl
   have hc2:=fC.out.rd.c2;rw [fu] at hc2;clear fu
  rotate_left
  focus
   have hox:OL=o:=fC.out.out
  rotate_left
  all_goals
   subst hox;have HCP:Hid (nn≤1000000):=hid (by have h1:=fC.out.cnt;have h2:=fC.out.le;split at h1 <;> omega);have HRp:Hid (Rd d lv OL.at OL.az wr):=hid fC.out.rd;have ci:=iJ d L lv OL.at OL.az [123] wr HRp.out (HT1.out.mv fC.out.mv (ae _));rw [show aX [123]=⟨#[123]⟩ from rfl] at ci;obtain ⟨R5,ZO⟩:∃ R,(!OL.az&&bH L [123] OL.at)=R:=⟨_,rfl⟩;rw [ZO] at ci;have H5:=hid ZO;clear ZO
   cases R5
   ·go_wp2_with fail
    refine ci.mono ?_;intro x w4 h4;obtain ⟨rfl,hw4⟩:=h4.went HRp.out;have pQ:=hid (fC.out.mv.trans (hw4.2.mono fC.out.mv.size));have BQ:=hid hw4.1;have Bz:=hid (HT1.out.mv pQ.out (ae _));have ZQ:=hid (fC.out.list.mv hw4.2 (by have:=dN.out.size;omega));have BC:Hid (dX W1.heap.size (Out.ok [] 0) (.slice none 0 0) 0 [] w4):=hid (dX.nil _ _ _);obtain ⟨oo,Ej⟩:∃ u,start OL.az OL.at (typed L n OL.at)=u:=⟨_,rfl⟩
    have HE4:Hid (oR=oo.next fun x q=>.ok [x] q):=hid (by
     rw [← HoR.out,← Ej];have h:=H5.out
     cases hb:OL.az
     ·rw [hb] at h
      have h:bH L [123] OL.at=false:=h;rw [aZ,aZ,ai (by rw [h];decide)]
     ·rfl)
    have HE5:Hid (oR.at=oo.at∧oR.az=oo.az):=hid (by rw [HE4.out];cases oo <;> exact ⟨rfl,rfl⟩);have Xw:=hid Ej;clear ci h4 hw4 Ej;have cb:=ui d L lv hL n OL.at OL.az w4 BQ.out Bz.out BR.out.le (fun h=>by have h3:=HN.out (BR.out.so h);have h5:=BR.out.ge;omega);rw [Xw.out] at cb
    go_wp2_with fail
    refine cb.mono ?_;rintro x v5 ⟨v,rfl,⟨kb,tb,fb,eb,ab,nb,kQ,rfl,hnb,hvb⟩,jr⟩;have Ef:dX W1.heap.size (Out.ok [] 0) (.slice none 0 0) 0 [] (v5.alloc (.cells #[.string kb,.string tb,.int .i64 fb,.int .i64 eb,.slice ab nb kQ] 49)):=(BC.out.mv jr.2 (by have:=dN.out.size;omega)).mv (Mv.of_below (d:=d) ((ah _ v5).alloc (ae _) _)) (by have:=dN.out.size;omega);have hbx:Below v5.heap.size v5 (v5.alloc (.cells #[.string kb,.string tb,.int .i64 fb,.int .i64 eb,.slice ab nb kQ] 49)):=(ah _ v5).alloc (ae _) _
    have hsx:W1.heap.size≤(v5.alloc (.cells #[.string kb,.string tb,.int .i64 fb,.int .i64 eb,.slice ab nb kQ] 49)).heap.size:=by have:=jr.2.size;have:=pQ.out.size;have:=hbx.size;omega
    have Il:=hid hvb;have qE:=hid jr;have yE:=hid Ef;have xL:=hid hbx;clear cb hvb jr Ef hbx hnb
    go_wp2_with (at_builtin;refine dD _ rfl _ _ 47 rfl W1.heap.size 49 iP _ 5 72 Tryz.underlying47 hi0 hz0 hz1 hz2 rfl (by decide) _ 0 [] rfl yE.out.own ⟨v5.heap.size,0,none⟩ 1 1 [.string kb,.string tb,.int .i64 fb,.int .i64 eb,.slice ab nb kQ] rfl rfl (qz (aG v5 _)) qy (by unfold maxLen;omega) (by omega) hsx ?_)
    intro v' w7 bP aN _ mg
    have hrow:v'.ownBlock=(Value.slice none 0 0).ownBlock∨v'.ownBlock=some (v5.alloc (.cells #[.string kb,.string tb,.int .i64 fb,.int .i64 eb,.slice ab nb kQ] 49)).heap.size:=by simpa using mg
    clear mg
    have hown1:∀ k,(Value.slice none 0 0).ownBlock=some k→W1.heap.size≤k:=fun k hk=>(yE.out.own.lt k hk).1
    have hd1:d<W1.heap.size:=by have:=dN.out.size;omega
    have sH:Hid (Rd d lv oo.at oo.az w7):=hid (by
     have h:=qE.out.1.below xL.out
     exact (aN.block d h.lt (fun h'=>by have:=hown1 d h'.symm;omega)).trans h)
    have iK:Hid (Mv W1.heap.size d W1 w7):=hid (pQ.out.trans ((qE.out.2.mono pQ.out.size).trans (((Mv.of_below xL.out).mono (by have:=qE.out.2.size;have:=pQ.out.size;omega)).trans ⟨aN.os,aN.tape,aN.output,aN.size,fun k hk _=>aN.block k (by omega) (fun h'=>by have:=hown1 k h'.symm;omega)⟩)))
    have Ew:Hid (dX W1.heap.size oR v' (0+1) ([]++[.string kb,.string tb,.int .i64 fb,.int .i64 eb,.slice ab nb kQ]) w7):=hid (yE.out.snoc BC.out (ae _) pQ.out.size Il.out xL.out bP aN hrow (fun l j hl=>by
    rw [HE4.out] at hl
    cases oo with
    | bad k=>cases hl
    | ok o k =>
     cases hl
     exact ⟨[],0,o,_,rfl,rfl,rfl⟩))
    obtain ⟨ra,rc,hv'⟩:=Ew.out.form;subst hv';have agx:=hid (ZQ.out.mv qE.out.2 hd1);have acU:=hid (agx.out.mv (Mv.of_below (d:=d) xL.out) hd1);have agy:Hid (dX W1.heap.size OL (.slice la nn lc) nn xs w7):=hid (acU.out.mv ⟨aN.os,aN.tape,aN.output,aN.size,fun k hk _=>aN.block k hk (fun h'=>by cases h')⟩ hd1);have zK:Hid (Rd d lv oR.at oR.az w7):=hid (by rw [HE5.out.1,HE5.out.2];exact sH.out);have jw:=iK;have HCR:Hid (0+1≤1000000):=hid (by omega);clear bP aN hrow hown1 hd1 hsx;have c10:=Gd d L lv hL n oR.at oR.az w7 zK.out (HT1.out.mv jw.out (ae _)) MH.out.le (fun h=>by have h3:=HN.out (acR.out h);have h5:=MH.out.ge;omega);rw [Xv.out] at c10
    go_wp2_with fail
    refine c10.mono ?_;rintro x q9 ⟨v,rfl,⟨jR,jS,jT,jU,jV,jW,jX,rfl,kT,nD⟩,Ko⟩;have rX:=hid nD;have xK:=hid kT;clear kT;have iX:=hid Ko;clear c10 nD Ko
    go_upto_region 16 with fail
    obtain ⟨oO,jf⟩:∃ q,q9.heap.size=q:=⟨_,rfl⟩;obtain ⟨wU,zM⟩:∃ V,q9.alloc (.cells #[.string jR,.string jS,.int .i64 jT,.int .i64 jU,.slice jV jW jX] 49)=V:=⟨_,rfl⟩
    have rO:Below q9.heap.size q9 wU:=by rw [← zM];exact (ah _ q9).alloc (ae _) _
    have nE:Hid (wU.heap[oO]?=some (.cells #[.string jR,.string jS,.int .i64 jT,.int .i64 jU,.slice jV jW jX] 49 (0,0))):=hid (by rw [← zM,← jf];exact aG q9 _);have lJ:Hid (Mv q9.heap.size d q9 wU):=hid (Mv.of_below rO);have jI:Hid (W1.heap.size≤w7.heap.size∧w7.heap.size≤q9.heap.size∧oO=q9.heap.size):=hid ⟨jw.out.size,iX.out.2.size,jf.symm⟩;rw [zM,jf];have rY:=hid ((jw.out.trans (iX.out.2.mono jw.out.size)).trans ((Mv.of_below rO).mono (aJ jw.out.size iX.out.2.size)));have yC:=hid (iX.out.1.below rO)
    skip
    clear zM rO jf;have Cu:Hid (Mv wU.heap.size d wU wU):=hid (Mv.refl _ _ _);have ZR:=hid (((agy.out).mv (iX.out.2) (by have:=dN.out.size;omega)).mv lJ.out (by have:=dN.out.size;omega));have ZS:=hid (((Ew.out).mv (iX.out.2) (by have:=dN.out.size;omega)).mv lJ.out (by have:=dN.out.size;omega));have ND:Hid (wU.drew.heap[oO]?=some (.cells #[.string jR,.string jS,.int .i64 jT,.int .i64 jU,.slice jV jW jX] 49 (0,0))):=hid nE.out;have IA:Hid (dX W1.heap.size OL (.slice la nn lc) nn xs wU.drew):=hid (ZR.out.mv ((Mv.refl _ d _).drewN 1) (by have:=dN.out.size;omega));have MI:Hid (dX W1.heap.size oR (.slice ra (0+1) rc) (0+1) ([]++[.string kb,.string tb,.int .i64 fb,.int .i64 eb,.slice ab nb kQ]) wU.drew):=hid (ZS.out.mv ((Mv.refl _ d _).drewN 1) (by have:=dN.out.size;omega));have AA:Hid (Mv W1.heap.size d W1 wU.drew):=hid (rY.out.drewN 1);have EK:Hid (Rd d lv ob.at ob.az wU.drew):=hid yC.out;have vZ:Hid (Mv q9.heap.size d q9 wU.drew):=hid (lJ.out.drewN 1)
    refine aK (S:=fun X=>X.heap[oO]?=some (.cells #[.string jR,.string jS,.int .i64 jT,.int .i64 jU,.slice jV jW jX] 49 (0,0))) (by kernel_rfl) ND.out fun ag=>?_
    obtain ⟨V,hV⟩:∃ V,wU.drew=V:=⟨_,rfl⟩;rw [hV] at ag ND IA MI AA EK vZ ⊢;clear hV;refine OP.m 0 rfl (.pointer (some ⟨d,0,none⟩)) ag ?_;simp only [OP.s];refine OP.m 1 rfl (.string sv) ag ?_;simp only [OP.s];refine OP.m 2 rfl (.int .i64 fr) ag ?_;simp only [OP.s];refine OP.m 3 rfl (.slice la nn lc) ag ?_;simp only [OP.s];refine OP.m 5 rfl (.slice ra (0+1) rc) ag ?_;simp only [OP.s];refine OP.t 7 rfl (.agg #[.string jR,.string jS,.int .i64 jT,.int .i64 jU,.slice jV jW jX]) (fun X hX=>by obtain ⟨q0,q1,q2,q3,q4⟩:=(aF hX).1;go_simp) ag ?_;simp only [OP.s];have cA:=Iy ⟨#[112,97,114,97,109,115]⟩ nn xs la lc V IA.out.own IA.out.Ec HCP.out;obtain ⟨F1,hF1⟩:∃ u,sS nn xs=u:=⟨_,rfl⟩;obtain ⟨E1,hE1⟩:∃ u,xM nn xs=u:=⟨_,rfl⟩;rw [hF1,hE1] at cA;have EH:=hid hF1;have Y3:=hid hE1;clear hF1 hE1
    refine OP.r 4 rfl fun K hK=>?_
    go_simp
    go_at_call 67
    refine cA.mono ?_;rintro x wA ⟨rfl,Mo⟩;have Em:wA.heap[oO]?=some (.cells #[.string jR,.string jS,.int .i64 jT,.int .i64 jU,.slice jV jW jX] 49 (0,0)):=(Mo.block _ (af.1 ag).1).trans ag;have HBA:=hid Mo;have TY:=hid (MI.out.mv (Mv.of_below (d:=d) Mo) (by have:=dN.out.size;omega));clear cA Mo;dsimp only;refine hK.out _ _ (Em) (fun jM=>?_)
    try simp only [OP.s]
    clear hK K;have cB:=Iy ⟨#[114,101,115,117,108,116]⟩ (0+1) ([]++[.string kb,.string tb,.int .i64 fb,.int .i64 eb,.slice ab nb kQ]) ra rc wA TY.out.own TY.out.Ec HCR.out;obtain ⟨F2,hF2⟩:∃ u,sS (0+1) ([]++[.string kb,.string tb,.int .i64 fb,.int .i64 eb,.slice ab nb kQ])=u:=⟨_,rfl⟩;obtain ⟨E2,hE2⟩:∃ u,xM (0+1) ([]++[.string kb,.string tb,.int .i64 fb,.int .i64 eb,.slice ab nb kQ])=u:=⟨_,rfl⟩;rw [hF2,hE2] at cB;have HF2:=hid hF2;have HE2:=hid hE2;clear hF2 hE2
    refine OP.r 6 rfl fun K hK=>?_
    go_simp
    go_at_call 67
    refine cB.mono ?_;rintro x wB ⟨rfl,ZT⟩;have En:wB.heap[oO]?=some (.cells #[.string jR,.string jS,.int .i64 jT,.int .i64 jU,.slice jV jW jX] 49 (0,0)):=(ZT.block _ (af.1 jM).1).trans jM;have KD:=hid (HBA.out.trans (ZT.mono HBA.out.size));clear cB ZT;dsimp only;refine hK.out _ _ (En) (fun lS=>?_)
    try simp only [OP.s]
    clear hK K;obtain ⟨z,hz⟩:∃ z,wB.heap.size=z:=⟨_,rfl⟩;obtain ⟨Z,hZ⟩:∃ Z,wB.alloc (.cells #[.string ⟨#[112,97,114,97,109,115]⟩,.string ⟨#[]⟩,.int .i64 F1,.int .i64 E1,.slice la nn lc,.string ⟨#[114,101,115,117,108,116]⟩,.string ⟨#[]⟩,.int .i64 F2,.int .i64 E2,.slice ra (0+1) rc,.string jR,.string jS,.int .i64 jT,.int .i64 jU,.slice jV jW jX] 49)=Z:=⟨_,rfl⟩
    have hbz:Below wB.heap.size wB Z:=by rw [← hZ];exact (ah _ wB).alloc (ae _) _
    have hrz:Z.heap[z]?=some (.cells #[.string ⟨#[112,97,114,97,109,115]⟩,.string ⟨#[]⟩,.int .i64 F1,.int .i64 E1,.slice la nn lc,.string ⟨#[114,101,115,117,108,116]⟩,.string ⟨#[]⟩,.int .i64 F2,.int .i64 E2,.slice ra (0+1) rc,.string jR,.string jS,.int .i64 jT,.int .i64 jU,.slice jV jW jX] 49 (0,0)):=by rw [← hZ,← hz];exact aG wB _
    have wS:Z.heap[oO]?=some (.cells #[.string jR,.string jS,.int .i64 jT,.int .i64 jU,.slice jV jW jX] 49 (0,0)):=(hbz.block _ (af.1 lS).1).trans lS;have Cs:Hid (Below V.heap.size V Z):=hid (KD.out.trans (hbz.mono KD.out.size));have qw:Hid (Mv W1.heap.size d W1 Z):=hid (AA.out.trans ((Mv.of_below Cs.out).mono AA.out.size));have Bw:=hid hrz;have xF:Hid (z=wB.heap.size∧V.heap.size≤wB.heap.size∧z<Z.heap.size):=hid ⟨hz.symm,KD.out.size,(af.1 hrz).1⟩;have cP:=eZ d L lv ob.at ob.az ⟨#[102,117,110,99]⟩ sv fr (some ⟨z,0,none⟩) 3 3 Z (EK.out.below Cs.out) (HT1.out.mv qw.out (ae _)) Eg.out.le hL;obtain ⟨ez,jB⟩:∃ u,jZ L ob.at=u:=⟨_,rfl⟩;rw [jB] at cP;have sN:=hid jB;clear jB hbz hrz
    refine OP.r 8 rfl fun K hK=>?_
    go_simp
    try rw [hZ]
    try rw [hz]
    clear hZ hz;refine hK.out _ _ (wS) (fun qC=>?_)
    try simp only [OP.s]
    clear hK K
    refine OP.r 9 rfl fun K hK=>?_
    go_simp
    go_at_call 66
    refine cP.mono ?_;rintro x wP ⟨rfl,wT⟩;have sO:wP.heap[oO]?=some (.cells #[.string jR,.string jS,.int .i64 jT,.int .i64 jU,.slice jV jW jX] 49 (0,0)):=(wT.2.block _ (af.1 qC).1 (by have:=jI.out;have:=dN.out.size;omega)).trans qC;have PR:=hid (qw.out.trans (wT.2.mono qw.out.size));have FZ:=hid wT;clear cP wT;dsimp only;refine hK.out _ _ (sO) (fun rQ=>?_)
    try simp only [OP.s]
    clear hK K;have hq8:wP.heap[w.heap.size]?=_:=(PR.out.block w.heap.size (af.1 jC.out).1 (by omega)).trans jC.out;obtain ⟨⟨r0,r1,r2,r3,r4⟩,gz⟩:=aF hq8;have g0:=gz 0;have g1:=gz 1;have g2:=gz 2;have g3:=gz 3;have g4:=gz 4;obtain ⟨WF,Ea,IJ,Km,-⟩:=gP (a':=.string ⟨#[102,117,110,99]⟩) (b':=.string sv) (c':=.int .i64 fr) (e':=.int .i64 ez) (f':=.slice (some ⟨z,0,none⟩) 3 3) hq8;have ZU:=(af.1 jC.out).1;have oK:WF.heap[oO]?=some (.cells #[.string jR,.string jS,.int .i64 jT,.int .i64 jU,.slice jV jW jX] 49 (0,0)):=(Km oO (by have:=jI.out;omega)).trans rQ;have Ws:=hid IJ;have Ua:=hid Ea;clear gz hq8 IJ Km ZU
    refine OP.r 10 rfl fun K hK=>?_
    go_simp
    refine hK.out _ _ (oK) (fun yn=>?_)
    try simp only [OP.s]
    clear hK K;clear r0 r1 r2 r3 r4 g0 g1 g2 g3 g4 Ea ag jM lS qC rQ yn Em En wS sO oK;refine bz (by kernel_rfl) ?_ _
    go_wp2_with fail
    refine aA (v:=.agg #[.string ⟨#[102,117,110,99]⟩,.string sv,.int .i64 fr,.int .i64 ez,.slice (some ⟨z,0,none⟩) 3 3]) (aQ rfl _ _ w.heap.size 49 #[.string ⟨#[102,117,110,99]⟩,.string sv,.int .i64 fr,.int .i64 ez,.slice (some ⟨z,0,none⟩) 3 3] (0,0) _ (by rfl) Ws.out Tryz.underlying49 rfl (by kernel_rfl)) rfl ?_;rw [← HQ.out,← Ua.out];refine dM hd (dN.out.trans (PR.out.mono dN.out.size)) FZ.out.1 HAT.out.1 HAT.out.2 ?_ ⟨ae _,ae _⟩;have hsz:=dN.out.size;have hqq:=(af.1 jC.out).1;have hze:=xF.out;have hmv:=AA.out.size;have mQ:wP.heap[z]?=_:=(FZ.out.2.block z hze.2.2 (by omega)).trans Bw.out;refine kM mQ (by omega) (fun p j fK=>?_) (by omega) (ae _);obtain ⟨hp,hn8,hP,hRR,hB⟩:=NI.out p j fK;refine ⟨eY,nm.KF,_,by rw [← sN.out];exact hp,rfl,hn8,rfl,?_⟩;have ZV:=(IA.out.mv (Mv.of_below (d:=d) Cs.out) (by omega)).mv FZ.out.2 (by omega);have ZW:=(MI.out.mv (Mv.of_below (d:=d) Cs.out) (by omega)).mv FZ.out.2 (by omega);have kP:=ZV.kids hP (R:=fun g=>w.heap.size<g) (fun g hg=>by omega) eT [] F1 E1;have kR:=ZW.kids hRR (R:=fun g=>w.heap.size<g) (fun g hg=>by omega) fF [] F2 E2;have mP:=Cw (ZV.parts _ _ hP).2 (ZV.parts _ _ hP).1 eT;have mR:=Cw (ZW.parts _ _ hRR).2 (ZW.parts _ _ hRR).1 fF;rw [EH.out,Y3.out] at mP;rw [HF2.out,HE2.out] at mR;obtain ⟨u1,u2⟩:=rX.out ob.pt ob.at hB;have sB:Mv q9.heap.size d q9 wP:=vZ.out.trans (((Mv.of_below Cs.out).mono vZ.out.size).trans (FZ.out.2.mono (by have:=vZ.out.size;have:=Cs.out.size;omega)))
    have kB:=u2.later (R':=fun g=>w.heap.size<g) (sB.still (ae _) (fun g hg=>by have:=jI.out;omega)) (fun g hg=>by have:=jI.out;omega);rw [mP,mR]
    show aP wP _ _ (([.string ⟨#[112,97,114,97,109,115]⟩,.string ⟨#[]⟩,.int .i64 F1,.int .i64 E1,.slice la nn lc]:List Value)++(([.string ⟨#[114,101,115,117,108,116]⟩,.string ⟨#[]⟩,.int .i64 F2,.int .i64 E2,.slice ra (0+1) rc]:List Value)++(([.string jR,.string jS,.int .i64 jT,.int .i64 jU,.slice jV jW jX]:List Value)++[])))
    rw [jE u1]
    exact ⟨_,_,rfl,kP,_,_,rfl,kR,_,_,rfl,kB,rfl⟩
   ·have hb5:OL.az=false∧bH L [123] OL.at=true:=by simpa using H5.out
    have HE4:Hid (oR=.ok [] OL.at):=hid (by rw [← HoR.out,hb5.1,aZ,au hb5.2]);have HOB:=hid hb5.1;clear hb5
    go_wp2_with fail
    refine ci.mono ?_;intro x w4 h4;obtain ⟨rfl,hw4⟩:=h4.went HRp.out;have jw:=hid (fC.out.mv.trans (hw4.2.mono fC.out.mv.size));have zK:Hid (Rd d lv oR.at oR.az w4):=hid (by rw [HE4.out];have h:=hw4.1;rw [HOB.out] at h;exact h);have ZQ:=hid (fC.out.list.mv hw4.2 (by have:=dN.out.size;omega));have BC:Hid (dX W1.heap.size oR (.slice none 0 0) 0 [] w4):=hid (by rw [HE4.out];exact dX.nil _ _ _);have HCR:Hid (0≤1000000):=hid (by omega);clear ci h4 hw4;have c10:=Gd d L lv hL n oR.at oR.az w4 zK.out (HT1.out.mv jw.out (ae _)) MH.out.le (fun h=>by have h3:=HN.out (acR.out h);have h5:=MH.out.ge;omega);rw [Xv.out] at c10
    go_wp2_with fail
    refine c10.mono ?_;rintro x q9 ⟨v,rfl,⟨jR,jS,jT,jU,jV,jW,jX,rfl,kT,nD⟩,Ko⟩;have rX:=hid nD;have xK:=hid kT;clear kT;have iX:=hid Ko;clear c10 nD Ko
    go_upto_region 16 with fail
    obtain ⟨oO,jf⟩:∃ q,q9.heap.size=q:=⟨_,rfl⟩;obtain ⟨wU,zM⟩:∃ V,q9.alloc (.cells #[.string jR,.string jS,.int .i64 jT,.int .i64 jU,.slice jV jW jX] 49)=V:=⟨_,rfl⟩
    have rO:Below q9.heap.size q9 wU:=by rw [← zM];exact (ah _ q9).alloc (ae _) _
    have nE:Hid (wU.heap[oO]?=some (.cells #[.string jR,.string jS,.int .i64 jT,.int .i64 jU,.slice jV jW jX] 49 (0,0))):=hid (by rw [← zM,← jf];exact aG q9 _);have lJ:Hid (Mv q9.heap.size d q9 wU):=hid (Mv.of_below rO);have jI:Hid (W1.heap.size≤w4.heap.size∧w4.heap.size≤q9.heap.size∧oO=q9.heap.size):=hid ⟨jw.out.size,iX.out.2.size,jf.symm⟩;rw [zM,jf];have rY:=hid ((jw.out.trans (iX.out.2.mono jw.out.size)).trans ((Mv.of_below rO).mono (aJ jw.out.size iX.out.2.size)));have yC:=hid (iX.out.1.below rO)
    skip
    clear zM rO jf;have Cu:Hid (Mv wU.heap.size d wU wU):=hid (Mv.refl _ _ _);have ZR:=hid (((ZQ.out).mv (iX.out.2) (by have:=dN.out.size;omega)).mv lJ.out (by have:=dN.out.size;omega));have ZS:=hid (((BC.out).mv (iX.out.2) (by have:=dN.out.size;omega)).mv lJ.out (by have:=dN.out.size;omega));have ND:Hid (wU.drew.heap[oO]?=some (.cells #[.string jR,.string jS,.int .i64 jT,.int .i64 jU,.slice jV jW jX] 49 (0,0))):=hid nE.out;have IA:Hid (dX W1.heap.size OL (.slice la nn lc) nn xs wU.drew):=hid (ZR.out.mv ((Mv.refl _ d _).drewN 1) (by have:=dN.out.size;omega));have MI:Hid (dX W1.heap.size oR (.slice none 0 0) 0 [] wU.drew):=hid (ZS.out.mv ((Mv.refl _ d _).drewN 1) (by have:=dN.out.size;omega));have AA:Hid (Mv W1.heap.size d W1 wU.drew):=hid (rY.out.drewN 1);have EK:Hid (Rd d lv ob.at ob.az wU.drew):=hid yC.out;have vZ:Hid (Mv q9.heap.size d q9 wU.drew):=hid (lJ.out.drewN 1)
    refine aK (S:=fun X=>X.heap[oO]?=some (.cells #[.string jR,.string jS,.int .i64 jT,.int .i64 jU,.slice jV jW jX] 49 (0,0))) (by kernel_rfl) ND.out fun ag=>?_
    obtain ⟨V,hV⟩:∃ V,wU.drew=V:=⟨_,rfl⟩;rw [hV] at ag ND IA MI AA EK vZ ⊢;clear hV;refine OP.m 0 rfl (.pointer (some ⟨d,0,none⟩)) ag ?_;simp only [OP.s];refine OP.m 1 rfl (.string sv) ag ?_;simp only [OP.s];refine OP.m 2 rfl (.int .i64 fr) ag ?_;simp only [OP.s];refine OP.m 3 rfl (.slice la nn lc) ag ?_;simp only [OP.s];refine OP.m 5 rfl (.slice none 0 0) ag ?_;simp only [OP.s];refine OP.t 7 rfl (.agg #[.string jR,.string jS,.int .i64 jT,.int .i64 jU,.slice jV jW jX]) (fun X hX=>by obtain ⟨q0,q1,q2,q3,q4⟩:=(aF hX).1;go_simp) ag ?_;simp only [OP.s];have cA:=Iy ⟨#[112,97,114,97,109,115]⟩ nn xs la lc V IA.out.own IA.out.Ec HCP.out;obtain ⟨F1,hF1⟩:∃ u,sS nn xs=u:=⟨_,rfl⟩;obtain ⟨E1,hE1⟩:∃ u,xM nn xs=u:=⟨_,rfl⟩;rw [hF1,hE1] at cA;have EH:=hid hF1;have Y3:=hid hE1;clear hF1 hE1
    refine OP.r 4 rfl fun K hK=>?_
    go_simp
    go_at_call 67
    refine cA.mono ?_;rintro x wA ⟨rfl,Mo⟩;have Em:wA.heap[oO]?=some (.cells #[.string jR,.string jS,.int .i64 jT,.int .i64 jU,.slice jV jW jX] 49 (0,0)):=(Mo.block _ (af.1 ag).1).trans ag;have HBA:=hid Mo;have TY:=hid (MI.out.mv (Mv.of_below (d:=d) Mo) (by have:=dN.out.size;omega));clear cA Mo;dsimp only;refine hK.out _ _ (Em) (fun jM=>?_)
    try simp only [OP.s]
    clear hK K;have cB:=Iy ⟨#[114,101,115,117,108,116]⟩ 0 [] none 0 wA TY.out.own TY.out.Ec HCR.out;obtain ⟨F2,hF2⟩:∃ u,sS 0 []=u:=⟨_,rfl⟩;obtain ⟨E2,hE2⟩:∃ u,xM 0 []=u:=⟨_,rfl⟩;rw [hF2,hE2] at cB;have HF2:=hid hF2;have HE2:=hid hE2;clear hF2 hE2
    refine OP.r 6 rfl fun K hK=>?_
    go_simp
    go_at_call 67
    refine cB.mono ?_;rintro x wB ⟨rfl,ZT⟩;have En:wB.heap[oO]?=some (.cells #[.string jR,.string jS,.int .i64 jT,.int .i64 jU,.slice jV jW jX] 49 (0,0)):=(ZT.block _ (af.1 jM).1).trans jM;have KD:=hid (HBA.out.trans (ZT.mono HBA.out.size));clear cB ZT;dsimp only;refine hK.out _ _ (En) (fun lS=>?_)
    try simp only [OP.s]
    clear hK K;obtain ⟨z,hz⟩:∃ z,wB.heap.size=z:=⟨_,rfl⟩;obtain ⟨Z,hZ⟩:∃ Z,wB.alloc (.cells #[.string ⟨#[112,97,114,97,109,115]⟩,.string ⟨#[]⟩,.int .i64 F1,.int .i64 E1,.slice la nn lc,.string ⟨#[114,101,115,117,108,116]⟩,.string ⟨#[]⟩,.int .i64 F2,.int .i64 E2,.slice none 0 0,.string jR,.string jS,.int .i64 jT,.int .i64 jU,.slice jV jW jX] 49)=Z:=⟨_,rfl⟩
    have hbz:Below wB.heap.size wB Z:=by rw [← hZ];exact (ah _ wB).alloc (ae _) _
    have hrz:Z.heap[z]?=some (.cells #[.string ⟨#[112,97,114,97,109,115]⟩,.string ⟨#[]⟩,.int .i64 F1,.int .i64 E1,.slice la nn lc,.string ⟨#[114,101,115,117,108,116]⟩,.string ⟨#[]⟩,.int .i64 F2,.int .i64 E2,.slice none 0 0,.string jR,.string jS,.int .i64 jT,.int .i64 jU,.slice jV jW jX] 49 (0,0)):=by rw [← hZ,← hz];exact aG wB _
    have wS:Z.heap[oO]?=some (.cells #[.string jR,.string jS,.int .i64 jT,.int .i64 jU,.slice jV jW jX] 49 (0,0)):=(hbz.block _ (af.1 lS).1).trans lS;have Cs:Hid (Below V.heap.size V Z):=hid (KD.out.trans (hbz.mono KD.out.size));have qw:Hid (Mv W1.heap.size d W1 Z):=hid (AA.out.trans ((Mv.of_below Cs.out).mono AA.out.size));have Bw:=hid hrz;have xF:Hid (z=wB.heap.size∧V.heap.size≤wB.heap.size∧z<Z.heap.size):=hid ⟨hz.symm,KD.out.size,(af.1 hrz).1⟩;have cP:=eZ d L lv ob.at ob.az ⟨#[102,117,110,99]⟩ sv fr (some ⟨z,0,none⟩) 3 3 Z (EK.out.below Cs.out) (HT1.out.mv qw.out (ae _)) Eg.out.le hL;obtain ⟨ez,jB⟩:∃ u,jZ L ob.at=u:=⟨_,rfl⟩;rw [jB] at cP;have sN:=hid jB;clear jB hbz hrz
    refine OP.r 8 rfl fun K hK=>?_
    go_simp
    try rw [hZ]
    try rw [hz]
    clear hZ hz;refine hK.out _ _ (wS) (fun qC=>?_)
    try simp only [OP.s]
    clear hK K
    refine OP.r 9 rfl fun K hK=>?_
    go_simp
    go_at_call 66
    refine cP.mono ?_;rintro x wP ⟨rfl,wT⟩;have sO:wP.heap[oO]?=some (.cells #[.string jR,.string jS,.int .i64 jT,.int .i64 jU,.slice jV jW jX] 49 (0,0)):=(wT.2.block _ (af.1 qC).1 (by have:=jI.out;have:=dN.out.size;omega)).trans qC;have PR:=hid (qw.out.trans (wT.2.mono qw.out.size));have FZ:=hid wT;clear cP wT;dsimp only;refine hK.out _ _ (sO) (fun rQ=>?_)
    try simp only [OP.s]
    clear hK K;have hq8:wP.heap[w.heap.size]?=_:=(PR.out.block w.heap.size (af.1 jC.out).1 (by omega)).trans jC.out;obtain ⟨⟨r0,r1,r2,r3,r4⟩,gz⟩:=aF hq8;have g0:=gz 0;have g1:=gz 1;have g2:=gz 2;have g3:=gz 3;have g4:=gz 4;obtain ⟨WF,Ea,IJ,Km,-⟩:=gP (a':=.string ⟨#[102,117,110,99]⟩) (b':=.string sv) (c':=.int .i64 fr) (e':=.int .i64 ez) (f':=.slice (some ⟨z,0,none⟩) 3 3) hq8;have ZU:=(af.1 jC.out).1;have oK:WF.heap[oO]?=some (.cells #[.string jR,.string jS,.int .i64 jT,.int .i64 jU,.slice jV jW jX] 49 (0,0)):=(Km oO (by have:=jI.out;omega)).trans rQ;have Ws:=hid IJ;have Ua:=hid Ea;clear gz hq8 IJ Km ZU
    refine OP.r 10 rfl fun K hK=>?_
    go_simp
    refine hK.out _ _ (oK) (fun yn=>?_)
    try simp only [OP.s]
    clear hK K;clear r0 r1 r2 r3 r4 g0 g1 g2 g3 g4 Ea ag jM lS qC rQ yn Em En wS sO oK;refine bz (by kernel_rfl) ?_ _
    go_wp2_with fail
    refine aA (v:=.agg #[.string ⟨#[102,117,110,99]⟩,.string sv,.int .i64 fr,.int .i64 ez,.slice (some ⟨z,0,none⟩) 3 3]) (aQ rfl _ _ w.heap.size 49 #[.string ⟨#[102,117,110,99]⟩,.string sv,.int .i64 fr,.int .i64 ez,.slice (some ⟨z,0,none⟩) 3 3] (0,0) _ (by rfl) Ws.out Tryz.underlying49 rfl (by kernel_rfl)) rfl ?_;rw [← HQ.out,← Ua.out];refine dM hd (dN.out.trans (PR.out.mono dN.out.size)) FZ.out.1 HAT.out.1 HAT.out.2 ?_ ⟨ae _,ae _⟩;have hsz:=dN.out.size;have hqq:=(af.1 jC.out).1;have hze:=xF.out;have hmv:=AA.out.size;have mQ:wP.heap[z]?=_:=(FZ.out.2.block z hze.2.2 (by omega)).trans Bw.out;refine kM mQ (by omega) (fun p j fK=>?_) (by omega) (ae _);obtain ⟨hp,hn8,hP,hRR,hB⟩:=NI.out p j fK;refine ⟨eY,nm.KF,_,by rw [← sN.out];exact hp,rfl,hn8,rfl,?_⟩;have ZV:=(IA.out.mv (Mv.of_below (d:=d) Cs.out) (by omega)).mv FZ.out.2 (by omega);have ZW:=(MI.out.mv (Mv.of_below (d:=d) Cs.out) (by omega)).mv FZ.out.2 (by omega);have kP:=ZV.kids hP (R:=fun g=>w.heap.size<g) (fun g hg=>by omega) eT [] F1 E1;have kR:=ZW.kids hRR (R:=fun g=>w.heap.size<g) (fun g hg=>by omega) fF [] F2 E2;have mP:=Cw (ZV.parts _ _ hP).2 (ZV.parts _ _ hP).1 eT;have mR:=Cw (ZW.parts _ _ hRR).2 (ZW.parts _ _ hRR).1 fF;rw [EH.out,Y3.out] at mP;rw [HF2.out,HE2.out] at mR;obtain ⟨u1,u2⟩:=rX.out ob.pt ob.at hB;have sB:Mv q9.heap.size d q9 wP:=vZ.out.trans (((Mv.of_below Cs.out).mono vZ.out.size).trans (FZ.out.2.mono (by have:=vZ.out.size;have:=Cs.out.size;omega)))
    have kB:=u2.later (R':=fun g=>w.heap.size<g) (sB.still (ae _) (fun g hg=>by have:=jI.out;omega)) (fun g hg=>by have:=jI.out;omega);rw [mP,mR]
    show aP wP _ _ (([.string ⟨#[112,97,114,97,109,115]⟩,.string ⟨#[]⟩,.int .i64 F1,.int .i64 E1,.slice la nn lc]:List Value)++(([.string ⟨#[114,101,115,117,108,116]⟩,.string ⟨#[]⟩,.int .i64 F2,.int .i64 E2,.slice none 0 0]:List Value)++(([.string jR,.string jS,.int .i64 jT,.int .i64 jU,.slice jV jW jX]:List Value)++[])))
    rw [jE u1]
    exact ⟨_,_,rfl,kP,_,_,rfl,kR,_,_,rfl,kB,rfl⟩
end T
end Go.Proofs.YtojoahlpgmnbnaaGreatDoor
