/- What the claim needs of the texts TBlock, TBranch. -/
import Derived.Test.YtojoahlpgmnbnaaGreatDoorUOOp
import Derived.Test.YtojoahlpgmnbnaaGreatDoorUO21
set_option maxRecDepth 20000
set_option maxHeartbeats 16000000
namespace Go.Proofs.YtojoahlpgmnbnaaGreatDoor
namespace T
open Go.RowKit
open Go.Lib hiding intOf
open U S L
def wX (d:Nat) (L:List aZ) (lv:Value) (n:Nat):Prop:=∀ (i:Nat) (b:Bool) (w:World),Rd d lv i b w→Tk d L lv w→i≤L.length→(b=false→8*(L.length - i)+3≤n) →
 Calls Tryz.prog 65 #[.pointer (some ⟨d,0,none⟩)] w (Reads d lv (start b i (block L n i)) w)
def Md (d:Nat) (L:List aZ) (lv:Value) (n:Nat):Prop:=∀ (i:Nat) (b:Bool) (w:World),Rd d lv i b w→Tk d L lv w→i≤L.length→(b=false→8*(L.length - i)+4≤n) →
 Calls Tryz.prog 85 #[.pointer (some ⟨d,0,none⟩)] w (Reads d lv (start b i (stmt L n i)) w)
theorem Me (d:Nat) (L:List aZ) (lv:Value) (hL:L.length≤1000000) (n:Nat) (ih:∀ m,m<n→Md d L lv m):wX d L lv n:=by
 intro i b w hR hT hi hn;obtain ⟨O,hO⟩:∃ O,start b i (block L n i)=O:=⟨_,rfl⟩;have HO:=hid hO;have HI:=hid ih;rw [hO];clear hO ih;have hd:=hR.lt;obtain ⟨W1,hW1⟩:∃ W1,w.alloc gB=W1:=⟨_,rfl⟩
 have hb1:Below w.heap.size w W1:=by rw [← hW1];exact (aj _ w).alloc (ae _) _
 have dP:=hid (Mv.of_below (d:=d) hb1)
 have hq1:W1.heap[w.heap.size]?=some (.cells #[.string ⟨#[]⟩,.string ⟨#[]⟩,.int .i64 0,.int .i64 0,.slice none 0 0] 49 (0,0)):=by rw [← hW1];exact aG w _
 have lL:Rd d lv i b W1:=hR.below hb1;have hT1:=hT.mv (Mv.of_below hb1) (ae _);have c1:=mZ d L lv i b W1 lL hT1;obtain ⟨fr,hfr⟩:∃ fr,bQ L i=fr:=⟨_,rfl⟩;rw [hfr] at c1;have Aq:=hid hfr;have HW1:=hid hW1;have jD:=hid hq1;have HR1:=hid lL;have HT1:=hid hT1;have HT0:=hid hT;have HN:=hid hn;obtain ⟨Q,hQ⟩:∃ Q,Reads d lv O w=Q:=⟨_,rfl⟩;have HQ:=hid hQ;rw [hQ];clear hW1 hq1 hb1 lL hT1 hfr hn hQ hR hT
 go_enter Tryz.func65,Tryz.ntmps65
 go_wp2_with fail
 rw [HW1.out];refine c1.mono ?_;intro x w2 h2;obtain ⟨rfl,hw2⟩:=h2.went HR1.out;have kG:=hid hw2.2;have HR2:=hid hw2.1;clear c1 h2 hw2;obtain ⟨om,mE⟩:∃ u,start b i (bI L [123] i)=u:=⟨_,rfl⟩;obtain ⟨zD,wF⟩:∃ u,om.at+(if om.aA then 0 else bE L om.at)=u:=⟨_,rfl⟩
 obtain ⟨m,hm⟩:∃ m,(b=false→n=m+1)∧(b=true→m=0):=by
  cases b
  ·exact ⟨n - 1,fun _=>by have:=HN.out rfl;omega,fun h=>by cases h⟩
  ·exact ⟨0,fun h=>by (cases h),fun _=>rfl⟩
 obtain ⟨OL,Bj⟩:∃ u,start om.aA zD (stmts L m zD [])=u:=⟨_,rfl⟩;have sJ:Hid (oZ L i b (start b i (Out.ok () i:Out Unit))):=hid (.begun hi ⟨ae _,hi⟩);have qj:Hid (oZ L i b om):=hid (by rw [← mE];exact .begun hi (bU _ hi).toFw)
 have PD:Hid (om.aA=false→om.at=i+1∧b=false):=hid (by
  rw [← mE]
  cases b
  ·rw [aW]
   unfold bI
   cases bG L [123] i
   ·intro h;cases h
   ·exact fun _=>⟨rfl,rfl⟩
  ·intro h;cases h)
 have TD:Hid (zD≤L.length∧om.at≤zD):=hid (by
  have h1:=qj.out.le
  cases hb:om.aA
  ·rw [hb,ai (by decide)] at wF
   have:=kW L h1
   omega
  ·rw [hb,ay rfl] at wF
   omega)
 have BD:Hid (OL.at≤L.length):=hid (by
  rw [← Bj]
  cases om.aA
  ·exact ((nk L m).stmts zD TD.out.1 []).le
  ·exact TD.out.1)
 obtain ⟨Mf,D6⟩:∃ u,start OL.aA OL.at (bI L [125] OL.at)=u:=⟨_,rfl⟩
 have Zh:Hid (Mf.at≤L.length):=hid (by
  rw [← D6]
  cases OL.aA
  ·exact (bU _ BD.out).le
  ·exact BD.out)
 have nM:Hid (O=OL.next fun l k=>(bI L [125] k).next fun _ q=>part L nX [] fr l q):=hid (by
  rw [← HO.out,← Bj,← Aq.out]
  cases b
  ·have hm1:=hm.1 rfl
   subst hm1;rw [aW,D5];have mE:bI L [123] i=om:=mE;rw [mE]
   cases om with
   | bad j =>
    have:j=zD:=wF;rw [← this];rfl
   | ok u j =>
    have:j+bE L j=zD:=wF;rw [← this];rfl
  ·rw [← wF,← mE];rfl)
 have HAT:Hid (O.at=Mf.at∧O.aA=Mf.aA):=hid (by rw [nM.out];exact FP D6)
 have zC:Hid (∀ p j,O=.ok p j→∃ K T ks j',p=.mk K T fr (jY L Mf.at) ks∧aU K=⟨#[98,108,111,99,107]⟩∧aU T=⟨#[]⟩∧OL=.ok ks j'):=hid (by
  intro p j fQ;rw [nM.out] at fQ;obtain ⟨ks,j',h1,h2⟩:=zw D6 fQ
  exact ⟨_,_,ks,j',h1,rfl,rfl,h2⟩)
 obtain ⟨iP,hi0,hz0,hz1,hz2⟩:=nQ Ay;have Hq:=hid mE;have Zi:=hid wF;have Zb:=hid Bj;have Zj:=hid D6;have TZ:=hid hm;clear mE wF Bj D6 hm;have c3:=jf d L lv i b [123] w2 HR2.out (HT1.out.mv kG.out (ae _)) (by have:=sJ.out.le;omega);rw [Hq.out,show aU [123]=⟨#[123]⟩ from rfl] at c3
 go_wp2_with fail
 refine c3.mono ?_;rintro x w3 ⟨rfl,hw3⟩;have lq:=hid (kG.out.trans (hw3.2.mono kG.out.size));have HR3:=hid hw3.1
 skip
 clear c3 hw3;have c4:=nP d L lv om.at om.aA w3 HR3.out (HT1.out.mv lq.out (ae _)) qj.out.le hL;rw [Zi.out] at c4;obtain ⟨RS4,ack⟩:∃ R,decide (0<(if om.aA then 0 else bE L om.at))=R:=⟨_,rfl⟩;rw [ack] at c4;clear ack
 go_wp2_with fail
 refine c4.mono ?_;rintro x w4 ⟨rfl,hw4⟩;have mJ:=hid (lq.out.trans (hw4.2.mono lq.out.size));have HR4:=hid hw4.1;clear c4 hw4
 have DZ:Hid (jP d L lv W1 OL (fun m j l=>stmts L m j l) 0 m false (start om.aA zD (.ok [] zD)) (.slice none 0 0) 0 [] m w4):=hid (by
  have h1:(start om.aA zD (.ok [] zD:Out (List Pt))).at=zD:=by cases om.aA <;> rfl
  have h2:(start om.aA zD (.ok [] zD:Out (List Pt))).aA=om.aA:=by cases om.aA <;> rfl
  refine ⟨?_,by rw [h1,h2];exact HR4.out,mJ.out,(dY.nil _ zD _).out (fun l j h=>?_),by rw [h1];exact TD.out.1,aL _,?_,fun _ hb=>?_⟩
  ·rw [ai (by decide),← Zb.out]
   cases om.aA <;> rfl
  ·cases hb:om.aA
   ·rw [hb] at h
    cases h
    exact ⟨_,rfl⟩
   ·rw [hb] at h
    cases h
  ·rw [h1,h2]
   cases hb:om.aA
   ·have:=(PD.out hb).1
    have:=TD.out.2;rw [ai (by decide)];omega
   ·rw [ay rfl];omega
  ·rw [h1]
   rw [h2] at hb;obtain ⟨h3,h4⟩:=PD.out hb;have h5:=TZ.out.1 h4;have h6:=HN.out h4;have h7:=TD.out.2;have h8:=qj.out.le
   omega)
 go_wp2_with fail
 go_loopw [4] (fun av wr=>∃ (o:Out (List Pt)) (v:Value) (nn:Nat) (xs:List Value) (mm:Nat),av=v∧Hid (jP d L lv W1 OL (fun m j l=>stmts L m j l) 0 (m) false o v nn xs mm wr)) (fun _ wr=>(L.length+1 - atR d wr)*2+nR d wr)
 case atStart=>exact ⟨_,_,0,[],_,rfl,DZ⟩
 case round =>
  clear DZ;obtain ⟨o,v,nn,xs,mm,rfl,fG⟩:=hrel;obtain ⟨la,lc,Zc⟩:=fG.out.list.form;subst Zc;have ci:=iM d L lv o.at o.aA [125] wr fG.out.rd (HT1.out.mv fG.out.mv (ae _));rw [show aU [125]=⟨#[125]⟩ from rfl] at ci
  cases fw:o.aA
  focus
   rw [fw] at ci;obtain ⟨R4,PE⟩:∃ R,bG L [125] o.at=R:=⟨_,rfl⟩;rw [show (!false&&bG L [125] o.at)=R4 from PE] at ci
   cases R4
   ·have TE:Hid (Rd d lv o.at false wr):=hid (by rw [← fw];exact fG.out.rd)
    have H4:=hid PE
    go_wp2_with (fail)
    refine ci.mono ?_;intro x w4 h4;obtain ⟨rfl,hw4⟩:=h4.went TE.out;have hc2:=hw4.1.c2;have uW:=hid hw4;clear ci h4 hw4 PE;obtain ⟨l,hl⟩:=yf fw;obtain ⟨oa,hoa⟩:∃ u,o.at=u:=⟨_,rfl⟩;rw [hoa] at hl;subst hl;have hfu2:=fG.out.fuel rfl rfl;have hle:oa≤L.length:=fG.out.le;have hcn:nn+1≤oa:=fG.out.cnt;have Zd:8*(L.length - oa)+5≤mm:=hfu2.1;have Ze:mm≤m:=hfu2.2;obtain ⟨m',rfl⟩:∃ m',mm=m'+1:=⟨mm - 1,by omega⟩;obtain ⟨ob,pG⟩:∃ u,start false oa (stmt L m' oa)=u:=⟨_,rfl⟩;have sK:Hid (vW L oa ob):=hid (by rw [← pG,aW];exact (nk L m').stmt oa hle)
    have yc:Hid (OL=ob.next fun p j=>if bE L j=0∧bG L [125] j=false then .bad j else stmts L m' (j+bE L j) (l++[p])):=hid (by
     have h:=fG.out.out;rw [ai (by decide)] at h;rw [h,← pG,aW]
     exact (yl L m' oa l).trans (ai (by rw [show bG L [125] oa=false from H4.out];decide)))
    have Bl:Hid (dY W1.heap.size (.ok l oa) (.slice la nn lc) nn xs w4):=hid (fG.out.list.mv uW.out.2 (by have:=dP.out.size;omega));have pJ:Hid (Mv W1.heap.size d W1 w4):=hid (fG.out.mv.trans (uW.out.2.mono fG.out.mv.size));have BC:Hid (Rd d lv oa false w4):=hid uW.out.1;have Bh:=hid (HT1.out.mv pJ.out (ae _));have yh:Hid (atR d wr=oa):=hid fG.out.rd.at;have Az:Hid (nR d wr=1):=hid fG.out.rd.good;have cb:=HI.out m' (by have h9:=TZ.out;cases b <;> simp at h9 <;> omega) oa false w4 BC.out Bh.out hle (fun _=>by omega);rw [pG] at cb;have k2:=BC.out.c2;clear pG hfu2 fw hoa
    go_wp2_with fail
    refine cb.mono ?_;rintro x v5 ⟨v,rfl,⟨kb,tb,fb,eb,ab,nb,kS,rfl,hnb,hvb⟩,jA⟩;have D3:dY W1.heap.size (.ok l oa) (.slice la nn lc) nn xs (v5.alloc (.cells #[.string kb,.string tb,.int .i64 fb,.int .i64 eb,.slice ab nb kS] 49)):=(Bl.out.mv jA.2 (by have:=dP.out.size;omega)).mv (Mv.of_below (d:=d) ((aj _ v5).alloc (ae _) _)) (by have:=dP.out.size;omega);have hbx:Below v5.heap.size v5 (v5.alloc (.cells #[.string kb,.string tb,.int .i64 fb,.int .i64 eb,.slice ab nb kS] 49)):=(aj _ v5).alloc (ae _) _
    have hsx:W1.heap.size≤(v5.alloc (.cells #[.string kb,.string tb,.int .i64 fb,.int .i64 eb,.slice ab nb kS] 49)).heap.size:=by have:=jA.2.size;have:=pJ.out.size;have:=hbx.size;omega
    have Hw:=hid hvb;have qA:=hid jA;have yj:=hid D3;have xB:=hid hbx;clear cb hvb jA D3 hbx hnb k2
    go_wp2_with (at_builtin;refine dG _ rfl _ _ 47 rfl W1.heap.size 49 iP _ 5 72 Tryz.underlying47 hi0 hz0 hz1 hz2 rfl (by decide) _ nn xs rfl yj.out.own ⟨v5.heap.size,0,none⟩ 1 1 [.string kb,.string tb,.int .i64 fb,.int .i64 eb,.slice ab nb kS] rfl rfl (qo (aG v5 _)) qm (by unfold maxLen;omega) (by omega) hsx ?_)
    intro v' w7 bY aP _ mf
    have hrow:v'.ownBlock=(Value.slice la nn lc).ownBlock∨v'.ownBlock=some (v5.alloc (.cells #[.string kb,.string tb,.int .i64 fb,.int .i64 eb,.slice ab nb kS] 49)).heap.size:=by simpa using mf
    clear mf
    have Ej:Hid (∀ o':Out (List Pt),(∀ l' j',o'=.ok l' j'→∃ p jp,ob=.ok p jp∧l'=l++[p])→dY W1.heap.size o' v' (nn+1) (xs++[.string kb,.string tb,.int .i64 fb,.int .i64 eb,.slice ab nb kS]) w7):=hid (fun o' ho'=>yj.out.snoc Bl.out (ae _) pJ.out.size Hw.out xB.out bY aP hrow (fun l' j' hl'=>by
     obtain ⟨p,jp,h1,h2⟩:=ho' l' j' hl'
     exact ⟨l,oa,p,jp,rfl,h1,h2⟩))
    have hown1:∀ k,(Value.slice la nn lc).ownBlock=some k→W1.heap.size≤k:=fun k hk=>(yj.out.own.lt k hk).1
    have hd1:d<W1.heap.size:=by have:=dP.out.size;omega
    have sw:Hid (Rd d lv ob.at ob.aA w7):=hid (by
     have h:=qA.out.1.below xB.out
     exact (aP.block d h.lt (fun h'=>by have:=hown1 d h'.symm;omega)).trans h)
    have iN:Hid (Mv W1.heap.size d W1 w7):=hid (pJ.out.trans ((qA.out.2.mono pJ.out.size).trans (((Mv.of_below xB.out).mono (by have:=qA.out.2.size;have:=pJ.out.size;omega)).trans ⟨aP.os,aP.tape,aP.output,aP.size,fun k hk _=>aP.block k (by omega) (fun h'=>by have:=hown1 k h'.symm;omega)⟩)));have c8:=nP d L lv ob.at ob.aA w7 sw.out (HT1.out.mv iN.out (ae _)) sK.out.le hL;obtain ⟨S8,EB⟩:∃ u,(if ob.aA then 0 else bE L ob.at)=u:=⟨_,rfl⟩;rw [EB] at c8;obtain ⟨p8,AA⟩:∃ u,ob.at+S8=u:=⟨_,rfl⟩;rw [AA] at c8
    have AB:Hid (p8≤L.length∧oa≤p8∧(ob.aA=false→oa<p8)∧p8=ob.at+S8):=hid (by
     have h1:=sK.out.ge;have h2:=sK.out.le;refine ⟨?_,by omega,fun h=>by have:=sK.out.gt h;omega,AA.symm⟩
     cases hb:ob.aA
     ·rw [hb,ai (by decide)] at EB
      have:=kW L h2
      omega
     ·rw [hb,ay rfl] at EB
      omega)
    obtain ⟨R9,L8⟩:∃ R,decide (0<S8)=R:=⟨_,rfl⟩;rw [L8] at c8;have HS8:=hid EB;have H9:=hid L8
    have HGO:Hid (ob.aA=false→(0<S8∨bG L [125] p8=true)→OL=(Out.ok (l++[ob.pt]) p8).next fun acc k=>stmts L m' k acc):=hid (fun hb h=>by
     rw [yc.out];rw [hb,ai (by decide)] at EB;have h1:=jG hb;rw [h1];have e1:(Out.ok ob.pt ob.at).at=ob.at:=rfl;have e2:(Out.ok ob.pt ob.at).pt=ob.pt:=rfl
     show (if bE L ob.at=0∧bG L [125] ob.at=false then _ else _)=_
     rw [ai (fun hh=>by
      rcases h with h|h
      ·omega
      ·rw [← AA,← EB,hh.1,bS,hh.2] at h;cases h),EB,AA]
     rfl)
    have Zk:Hid (¬ 0<S8→(!ob.aA&&bG L [125] p8)=false→OL=.bad p8):=hid (fun h1 h2=>by
     rw [yc.out]
     have h0:S8=0:=by omega
     rw [h0,bS] at AA
     cases ob with
     | bad j =>
      have AA:j=p8:=AA;rw [← AA];rfl
     | ok a j =>
      have AA:j=p8:=AA;have EB:bE L j=S8:=EB
      have h2:bG L [125] p8=false:=by simpa [Out.aA] using h2
      show (if bE L j=0∧bG L [125] j=false then _ else _)=_
      rw [ay ⟨by omega,by rw [AA];exact h2⟩,AA])
    have Ir:Hid (ob.aA=false→dY W1.heap.size (Out.ok (l++[ob.pt]) p8) v' (nn+1) (xs++[.string kb,.string tb,.int .i64 fb,.int .i64 eb,.slice ab nb kS]) w7):=hid (fun hb=>Ej.out _ (fun l' j' hl'=>by
     cases hl'
     exact ⟨ob.pt,ob.at,jG hb,rfl⟩))
    have HL9:Hid (dY W1.heap.size (Out.bad p8) v' (nn+1) (xs++[.string kb,.string tb,.int .i64 fb,.int .i64 eb,.slice ab nb kS]) w7):=hid (Ej.out _ (fun l' j' hl'=>by cases hl'));clear bY aP hrow hown1 hd1 L8 hsx EB AA
    cases R9
    ·go_wp2_with fail
     refine c8.mono ?_;rintro x w8 ⟨rfl,hw8⟩;have lF:=hid (iN.out.trans (hw8.2.mono iN.out.size));have Px:=hid hw8;have c9:=iM d L lv p8 ob.aA [125] w8 hw8.1 (HT1.out.mv lF.out (ae _));rw [show aU [125]=⟨#[125]⟩ from rfl] at c9;obtain ⟨RX,Zl⟩:∃ R,(!ob.aA&&bG L [125] p8)=R:=⟨_,rfl⟩;rw [Zl] at c9;have HX:=hid Zl;clear c8 hw8 Zl
     cases RX
     ·go_wp2_with fail
      refine c9.mono ?_;intro x w9 h9;obtain ⟨rfl,dV⟩:=h9.went Px.out.1;have kF:=hid (lF.out.trans (dV.2.mono lF.out.size));have k2:=dV.1.c2;have f2:=dV.1.f2;obtain ⟨WE,hWE⟩:∃ W,w9.setCell ⟨d,2,none⟩ (.bool true)=W:=⟨_,rfl⟩
      have Wh:Rd d lv p8 true WE:=by rw [← hWE];exact dV.1.set2 true
      have Zm:Mv w9.heap.size d w9 WE:=by rw [← hWE];exact (Mv.refl _ _ _).setCell 2 _
      have oC:Hid (jP d L lv W1 OL (fun m j l=>stmts L m j l) 0 (m) false (Out.bad p8) v' (nn+1) (xs++[.string kb,.string tb,.int .i64 fb,.int .i64 eb,.slice ab nb kS]) m' WE):=hid ⟨by rw [ai (by decide)];exact Zk.out (by simpa using H9.out) HX.out,Wh,kF.out.trans (Zm.mono kF.out.size),((HL9.out.mv Px.out.2 (by have:=dP.out.size;omega)).mv dV.2 (by have:=dP.out.size;omega)).mv Zm (by have:=dP.out.size;omega),AB.out.1,aL _,by show nn+1+0≤p8;have:=AB.out;omega,fun _ hb=>by cases hb⟩;have sO:Hid (atR d WE=p8∧nR d WE=0):=hid ⟨Wh.at,Wh.good⟩;clear c9 h9 dV Wh Zm
      go_wp2_with fail
      go_roundw
      case rel=>exact ⟨_,_,_,_,m',rfl,oC⟩
      case measure =>
       rw [sO.out.1,sO.out.2,yh.out,Az.out];have h1:=AB.out
       omega
     ·have nV:ob.aA=false∧bG L [125] p8=true:=by simpa using HX.out
      have sP:=hid nV;clear nV
      go_wp2_with fail
      refine c9.mono ?_;intro x w9 h9;obtain ⟨rfl,dV⟩:=h9.went Px.out.1;rw [sP.out.1] at dV;have kF:=hid (lF.out.trans (dV.2.mono lF.out.size));have oC:Hid (jP d L lv W1 OL (fun m j l=>stmts L m j l) 0 (m) false (Out.ok (l++[ob.pt]) p8) v' (nn+1) (xs++[.string kb,.string tb,.int .i64 fb,.int .i64 eb,.slice ab nb kS]) m' w9):=hid ⟨by rw [ai (by decide)];exact HGO.out sP.out.1 (.inr sP.out.2),dV.1,kF.out,((Ir.out sP.out.1).mv Px.out.2 (by have:=dP.out.size;omega)).mv dV.2 (by have:=dP.out.size;omega),AB.out.1,aL _,by show nn+1+1≤p8;have:=AB.out.2.2.1 sP.out.1;omega,fun _ _=>by show 8*(L.length - p8)+5≤m'∧m'≤m;have:=AB.out.2.2.1 sP.out.1;have:=bR sP.out.2;omega⟩;have sO:Hid (atR d w9=p8∧nR d w9=1):=hid ⟨dV.1.at,dV.1.good⟩;clear c9 h9 dV
      go_wp2_with fail
      go_roundw
      case rel=>exact ⟨_,_,_,_,m',rfl,oC⟩
      case measure =>
       rw [sO.out.1,sO.out.2,yh.out,Az.out];have h1:=AB.out.2.2.1 sP.out.1;have h2:=AB.out.1
       omega
    ·have hS:0<S8:=by simpa using H9.out
     have nV:ob.aA=false:=by
      cases hb:ob.aA
      ·rfl
      ·have h:=HS8.out
       rw [hb,ay rfl] at h
       omega
     have sP:=hid nV;have HS:=hid hS;clear nV hS
     go_wp2_with fail
     refine c8.mono ?_;rintro x w8 ⟨rfl,hw8⟩;rw [sP.out] at hw8;have lF:=hid (iN.out.trans (hw8.2.mono iN.out.size));have oC:Hid (jP d L lv W1 OL (fun m j l=>stmts L m j l) 0 (m) false (Out.ok (l++[ob.pt]) p8) v' (nn+1) (xs++[.string kb,.string tb,.int .i64 fb,.int .i64 eb,.slice ab nb kS]) m' w8):=hid ⟨by rw [ai (by decide)];exact HGO.out sP.out (.inl HS.out),hw8.1,lF.out,(Ir.out sP.out).mv hw8.2 (by have:=dP.out.size;omega),AB.out.1,aL _,by show nn+1+1≤p8;have:=AB.out.2.2.1 sP.out;omega,fun _ _=>by show 8*(L.length - p8)+5≤m'∧m'≤m;have:=sK.out.gt sP.out;have:=AB.out;have:=HS.out;omega⟩;have sO:Hid (atR d w8=p8∧nR d w8=1):=hid ⟨hw8.1.at,hw8.1.good⟩;clear c8 hw8
     go_wp2_with fail
     go_roundw
     case rel=>exact ⟨_,_,_,_,m',rfl,oC⟩
     case measure =>
      rw [sO.out.1,sO.out.2,yh.out,Az.out];have h1:=AB.out.2.2.1 sP.out;have h2:=AB.out.1
      omega
   have hox:OL=o:=by
    have h:=fG.out.out;rw [ai (by decide)] at h;obtain ⟨l,hl⟩:=yf fw;have hfu:=(fG.out.fuel rfl fw).1;obtain ⟨m',rfl⟩:∃ m',mm=m'+1:=⟨mm - 1,by omega⟩;rw [h];rw [hl] at PE ⊢
    exact (yl L m' o.at l).trans (ay PE)
   have TE:Hid (Rd d lv o.at o.aA wr):=hid fG.out.rd
   go_wp2_with fail
   refine ci.mono ?_;intro x w4 h4;obtain ⟨rfl,hw4⟩:=h4.went TE.out;have uW:=hid hw4;clear ci h4 hw4 PE fw
  rotate_left
  focus
   have hox:OL=o:=by
    rw [fG.out.out,ai (by decide)]
    cases o with
    | ok a j=>cases fw
    | bad j=>rfl
   have TE:Hid (Rd d lv o.at o.aA wr):=hid fG.out.rd;rw [show (!o.aA&&bG L [125] o.at)=false by rw [fw];rfl] at ci
   go_wp2_with fail
   refine ci.mono ?_;intro x w4 h4;obtain ⟨rfl,hw4⟩:=h4.went TE.out;have hc2:=hw4.1.c2;rw [fw] at hc2;have uW:=hid hw4;clear ci h4 hw4 fw
  rotate_left
  all_goals
   subst hox;have Zn:=hid (fG.out.mv.trans (uW.out.2.mono fG.out.mv.size));have HLe:=hid (fG.out.list.mv uW.out.2 (by have:=dP.out.size;omega));have HCe:Hid (nn≤1000000):=hid (by have h1:=fG.out.cnt;have h2:=fG.out.le;split at h1 <;> omega);have ce:=jf d L lv OL.at OL.aA [125] w4 uW.out.1 (HT1.out.mv Zn.out (ae _)) (by have:=fG.out.le;omega);rw [Zj.out,show aU [125]=⟨#[125]⟩ from rfl] at ce
   go_wp2_with fail
   refine ce.mono ?_;rintro x we ⟨rfl,Wj⟩;have Zo:=hid (Zn.out.trans (Wj.2.mono Zn.out.size));have HRf:=hid Wj.1;have HLf:=hid (HLe.out.mv Wj.2 (by have:=dP.out.size;omega));clear ce Wj;have cz:=eZ d L lv Mf.at Mf.aA ⟨#[98,108,111,99,107]⟩ ⟨#[]⟩ fr la nn lc we HRf.out (HT1.out.mv Zo.out (ae _)) Zh.out hL;obtain ⟨ez,jC⟩:∃ u,jY L Mf.at=u:=⟨_,rfl⟩;rw [jC] at cz;have sH:=hid jC;clear jC
   go_wp2_with fail
   refine cz.mono ?_;rintro x wq ⟨rfl,hwq⟩;have Ce:=hid (Zo.out.trans (hwq.2.mono Zo.out.size));have EA:=hid hwq;have ow:=(af.1 jD.out).1;have jd:wq.heap[w.heap.size]?=_:=(Ce.out.block w.heap.size ow (by omega)).trans jD.out;obtain ⟨⟨r0,r1,r2,r3,r4⟩,gz⟩:=aF jd;have g0:=gz 0;have g1:=gz 1;have g2:=gz 2;have g3:=gz 3;have g4:=gz 4;have pQ:=hid jd;clear cz hwq jd gz
   go_wp2_with fail
   have hp:=dS (a':=.string ⟨#[98,108,111,99,107]⟩) (b':=.string ⟨#[]⟩) (c':=.int .i64 fr) (d':=.int .i64 ez) (e':=.slice la nn lc) pQ.out;refine aB (v:=.agg #[.string ⟨#[98,108,111,99,107]⟩,.string ⟨#[]⟩,.int .i64 fr,.int .i64 ez,.slice la nn lc]) (aQ rfl _ _ w.heap.size 49 #[.string ⟨#[98,108,111,99,107]⟩,.string ⟨#[]⟩,.int .i64 fr,.int .i64 ez,.slice la nn lc] (0,0) _ (by rfl) hp Tryz.underlying49 rfl (by kernel_rfl)) rfl ?_;rw [← HQ.out];refine dO hd (dP.out.trans (Ce.out.mono dP.out.size)) EA.out.1 HAT.out.1 HAT.out.2 ?_ ⟨ae _,ae _⟩;refine nI (HLf.out.mv EA.out.2 (by omega)) (fun g hg=>by omega) (HCe.out) (fun p j fQ=>?_);rw [← sH.out]
   exact zC.out p j fQ
theorem dY.made {B n:Nat} {W Z:World} {cs:Array Value} {o:Out (List Pt)} (hZ:W.alloc (.cells cs 49)=Z) (hB:B≤W.heap.size) (hs:cs.size=n*5) (hn:n≤1000) (h5:uP n cs.toList)
  (h:∀ l j,o=.ok l j→l.length=n∧aO W (fun g=>B≤g∧g<W.heap.size) l cs.toList):dY B o (.slice (some ⟨W.heap.size,0,none⟩) n n) n cs.toList Z:=by
 subst hZ;refine ⟨World.ownsRow_lit W cs n hB (by unfold maxLen;omega) hs,h5,fun l j hl=>⟨(h l j hl).1,?_⟩⟩;refine aO.later (fun g hg hgl=>heap_alloc_old W _ hgl) (fun g hg=>⟨hg.1,by simp;omega,fun h'=>?_⟩) _ _ (h l j hl).2;simp only [Value.ownBlock,bW] at h'
 omega
def zF (d:Nat) (L:List aZ) (lv:Value) (n:Nat):Prop:=∀ (i:Nat) (b:Bool) (w:World),Rd d lv i b w→Tk d L lv w→i≤L.length→(b=false→8*(L.length - i)+3≤n) →
 Calls Tryz.prog 109 #[.pointer (some ⟨d,0,none⟩)] w (Reads d lv (start b i (branch L n i)) w)
theorem Ke (d:Nat) (L:List aZ) (lv:Value) (hL:L.length≤1000000) (n:Nat) (ihB:∀ m,n=m+1∨m=0→wX d L lv m) (ih:∀ m,n=m+1→zF d L lv m):zF d L lv n:=by
 intro i b w hR hT hi hn;obtain ⟨O,hO⟩:∃ O,start b i (branch L n i)=O:=⟨_,rfl⟩;have HO:=hid hO;have HI:=hid ih;have HIB:=hid ihB;rw [hO];clear hO ih ihB;have hd:=hR.lt;obtain ⟨W1,hW1⟩:∃ W1,w.alloc gB=W1:=⟨_,rfl⟩
 have hb1:Below w.heap.size w W1:=by rw [← hW1];exact (aj _ w).alloc (ae _) _
 have dP:=hid (Mv.of_below (d:=d) hb1)
 have hq1:W1.heap[w.heap.size]?=some (.cells #[.string ⟨#[]⟩,.string ⟨#[]⟩,.int .i64 0,.int .i64 0,.slice none 0 0] 49 (0,0)):=by rw [← hW1];exact aG w _
 have lL:Rd d lv i b W1:=hR.below hb1;have hT1:=hT.mv (Mv.of_below hb1) (ae _);have c1:=mZ d L lv i b W1 lL hT1;obtain ⟨fr,hfr⟩:∃ fr,bQ L i=fr:=⟨_,rfl⟩;rw [hfr] at c1;have Aq:=hid hfr;have HW1:=hid hW1;have jD:=hid hq1;have HR1:=hid lL;have HT1:=hid hT1;have HT0:=hid hT;have HN:=hid hn;obtain ⟨Q,hQ⟩:∃ Q,Reads d lv O w=Q:=⟨_,rfl⟩;have HQ:=hid hQ;rw [hQ];clear hW1 hq1 hb1 lL hT1 hfr hn hQ hR hT
 go_enter Tryz.func109,Tryz.ntmps109
 go_wp2_with fail
 rw [HW1.out];refine c1.mono ?_;intro x w2 h2;obtain ⟨rfl,hw2⟩:=h2.went HR1.out;have kG:=hid hw2.2;have HR2:=hid hw2.1;clear c1 h2 hw2;obtain ⟨om,mE⟩:∃ u,start b i (bI L kJ i)=u:=⟨_,rfl⟩
 obtain ⟨m,hm⟩:∃ m,(b=false→n=m+1)∧(b=true→m=0):=by
  cases b
  ·exact ⟨n - 1,fun _=>by have:=HN.out rfl;omega,fun h=>by cases h⟩
  ·exact ⟨0,fun h=>by (cases h),fun _=>rfl⟩
 obtain ⟨oe,hoe⟩:∃ u,start om.aA om.at (expr L m 0 om.at)=u:=⟨_,rfl⟩;obtain ⟨ob,fw⟩:∃ u,start oe.aA oe.at (block L m oe.at)=u:=⟨_,rfl⟩;have sJ:Hid (oZ L i b (start b i (Out.ok () i:Out Unit))):=hid (.begun hi ⟨ae _,hi⟩);have qj:Hid (oZ L i b om):=hid (by rw [← mE];exact .begun hi (bU _ hi).toFw);have xk:Hid (oZ L i b oe):=hid (by rw [← hoe];exact qj.out.step ((iK m).expr _ qj.out.le 0).toFw);have D4:Hid (oZ L i b ob):=hid (by rw [← fw];exact xk.out.step ((nk L m).block _ xk.out.le).toFw)
 have PD:Hid (om.aA=false→om.at=i+1∧b=false):=hid (by
  rw [← mE]
  cases b
  ·rw [aW]
   unfold bI
   cases bG L kJ i
   ·intro h;cases h
   ·exact fun _=>⟨rfl,rfl⟩
  ·intro h;cases h)
 have acr:Hid (oe.aA=false→om.aA=false):=hid (fun h=>by rw [← hoe] at h;exact (jq h).1)
 have acs:Hid (om.at≤oe.at):=hid (by
  rw [← hoe]
  cases om.aA
  ·exact ((iK m).expr _ qj.out.le 0).ge
  ·exact ae _)
 have Zp:Hid (ob.aA=false→oe.aA=false∧oe.at≤ob.at):=hid (fun h=>by
  rw [← fw] at h ⊢;obtain ⟨h1,h2⟩:=jq h;rw [h2]
  exact ⟨h1,((nk L m).block _ xk.out.le).ge⟩)
 have nM:Hid (O=ob.next fun _ k=>if bG L mM k then if bG L kJ (k+1) then (branch L m (k+1)).next fun o p=>part L kJ [] fr [oe.pt,ob.pt,o] p else (block L m (k+1)).next fun o p=>part L kJ [] fr [oe.pt,ob.pt,o] p else part L kJ [] fr [oe.pt,ob.pt] k):=hid (by
  rw [← HO.out,← Aq.out]
  cases b
  ·have hm1:=hm.1 rfl
   subst hm1;rw [aW,Bn];have mE:bI L kJ i=om:=mE;rw [mE]
   cases om with
   | bad j=>subst hoe;subst fw;rfl
   | ok u j =>
    have hoe:expr L m 0 j=oe:=hoe
    show ((expr L m 0 j).next _)=_
    rw [hoe]
    cases oe with
    | bad j=>subst fw;rfl
    | ok e k =>
     have fw:block L m k=ob:=fw
     show ((block L m k).next _)=_
     rw [fw]
     cases ob <;> rfl
  ·subst mE;subst hoe;subst fw;rfl)
 obtain ⟨oL,Zq⟩:∃ u,(ob.next fun _ k=>Out.ok [oe.pt,ob.pt] k:Out (List Pt))=u:=⟨_,rfl⟩
 have Zg:∀ l j,oL=.ok l j→(∃ y0 j0,oe=.ok y0 j0)∧(∃ y1 j1,ob=.ok y1 j1)∧l=[oe.pt,ob.pt]:=fun l j hl=>by
  rw [← Zq] at hl
  cases hb:ob.aA
  ·have h1:=jG hb
   have h2:=jG (Zp.out hb).1;refine ⟨⟨_,_,h2⟩,⟨_,_,h1⟩,?_⟩;rw [h1] at hl;simp only [Out.next,Out.ok.injEq] at hl;rw [← hl.1];rfl
  ·cases ob with
   | ok a j=>cases hb
   | bad j=>cases hl
 have afW:Hid (∀ l j,oL=.ok l j→∃ x:(∃ y0 j0,oe=.ok y0 j0)∧(∃ y1 j1,ob=.ok y1 j1),l=[oe.pt,ob.pt]):=hid (fun l j hl=>by obtain ⟨h1,h2,h3⟩:=Zg l j hl;exact ⟨⟨h1,h2⟩,h3⟩);obtain ⟨iP,hi0,hz0,hz1,hz2⟩:=nQ Ay;have Hq:=hid mE;have Y9:=hid hoe;have Xe:=hid fw;have HoL:=hid Zq;have TZ:=hid hm;have afX:=hid Zg;clear mE hoe fw Zq hm Zg afW;have c3:=jf d L lv i b kJ w2 HR2.out (HT1.out.mv kG.out (ae _)) (by have:=sJ.out.le;omega);rw [Hq.out,show aU kJ=⟨#[105,102]⟩ from rfl] at c3
 go_wp2_with fail
 refine c3.mono ?_;rintro x w3 ⟨rfl,hw3⟩;have lq:=hid (kG.out.trans (hw3.2.mono kG.out.size));have HR3:=hid hw3.1
 skip
 clear c3 hw3;have c4:=tT d L lv hL m 0 om.at om.aA w3 HR3.out (HT1.out.mv lq.out (ae _)) qj.out.le (fun h=>by obtain ⟨h1,h2⟩:=PD.out h;have h3:=HN.out h2;have h4:=TZ.out.1 h2;have h5:=qj.out.le;omega);rw [Y9.out] at c4
 go_wp2_with fail
 refine c4.mono ?_;rintro x w4 ⟨v,rfl,⟨jQ,jR,jS,jT,jU,jV,jW,rfl,kU,ng⟩,hw4⟩;have rU:=hid ng;have xA:=hid kU;clear kU;have jb:=hid hw4;clear c4 ng hw4
 go_upto_region 4 with fail
 obtain ⟨oG,ji⟩:∃ q,w4.heap.size=q:=⟨_,rfl⟩;obtain ⟨V4,VQ⟩:∃ V,w4.alloc (.cells #[.string jQ,.string jR,.int .i64 jS,.int .i64 jT,.slice jU jV jW] 49)=V:=⟨_,rfl⟩
 have hb4:Below w4.heap.size w4 V4:=by rw [← VQ];exact (aj _ w4).alloc (ae _) _
 have ni:Hid (V4.heap[oG]?=some (.cells #[.string jQ,.string jR,.int .i64 jS,.int .i64 jT,.slice jU jV jW] 49 (0,0))):=hid (by rw [← VQ,← ji];exact aG w4 _);have lK:Hid (Mv w4.heap.size d w4 V4):=hid (Mv.of_below hb4);have jJ:Hid (W1.heap.size≤w3.heap.size∧w3.heap.size≤w4.heap.size∧oG=w4.heap.size):=hid ⟨lq.out.size,jb.out.2.size,ji.symm⟩;rw [VQ,ji];have mJ:=hid ((lq.out.trans (jb.out.2.mono lq.out.size)).trans ((Mv.of_below hb4).mono (aJ lq.out.size jb.out.2.size)));have HR4:=hid (jb.out.1.below hb4)
 skip
 clear VQ hb4 ji;have xX:Hid (Mv V4.heap.size d V4 V4):=hid (Mv.refl _ _ _);have c5:=HIB.out m (by have h9:=TZ.out;cases b <;> simp at h9 <;> omega) oe.at oe.aA V4 HR4.out (HT1.out.mv mJ.out (ae _)) xk.out.le (fun h=>by obtain ⟨h1,h2⟩:=PD.out (acr.out h);have h3:=HN.out h2;have h4:=TZ.out.1 h2;have h5:=xk.out.le;have h6:=acs.out;omega);rw [Xe.out] at c5
 go_wp2_with fail
 refine c5.mono ?_;rintro x w5 ⟨v,rfl,⟨FQ,FR,FT,FU,FV,FW,FX,rfl,Bi,J8⟩,jA⟩;have Tn:=hid J8;have Xd:=hid Bi;clear Bi;have tQ:=hid jA;clear c5 J8 jA
 go_upto_region 5 with fail
 obtain ⟨Tp,zy⟩:∃ q,w5.heap.size=q:=⟨_,rfl⟩;obtain ⟨V5,PZ⟩:∃ V,w5.alloc (.cells #[.string FQ,.string FR,.int .i64 FT,.int .i64 FU,.slice FV FW FX] 49)=V:=⟨_,rfl⟩
 have hb5:Below w5.heap.size w5 V5:=by rw [← PZ];exact (aj _ w5).alloc (ae _) _
 have Ka:Hid (V5.heap[Tp]?=some (.cells #[.string FQ,.string FR,.int .i64 FT,.int .i64 FU,.slice FV FW FX] 49 (0,0))):=hid (by rw [← PZ,← zy];exact aG w5 _);have Kb:Hid (Mv w5.heap.size d w5 V5):=hid (Mv.of_below hb5);have DY:Hid (W1.heap.size≤V4.heap.size∧V4.heap.size≤w5.heap.size∧Tp=w5.heap.size):=hid ⟨mJ.out.size,tQ.out.2.size,zy.symm⟩;rw [PZ,zy];have mK:=hid ((mJ.out.trans (tQ.out.2.mono mJ.out.size)).trans ((Mv.of_below hb5).mono (aJ mJ.out.size tQ.out.2.size)));have uV:=hid (tQ.out.1.below hb5);have xZ:=hid (xX.out.trans ((tQ.out.2.trans ((Mv.of_below hb5).mono tQ.out.2.size)).mono xX.out.size));clear PZ hb5 zy;have TF:Hid (Mv V5.heap.size d V5 V5):=hid (Mv.refl _ _ _)
 have HPP:∀ l j,oL=.ok l j→∃ y0 y1,(∃ j0,oe=.ok y0 j0)∧(∃ j1,ob=.ok y1 j1)∧l=[y0,y1]:=fun l j hl=>by
  obtain ⟨⟨y0,j0,h0⟩,⟨y1,j1,h1⟩,h2⟩:=afX.out l j hl;refine ⟨y0,y1,⟨j0,h0⟩,⟨j1,h1⟩,?_⟩;rw [h2,h0,h1];rfl
 have HPQ:∀ l j,oL=.ok l j→∃ q:(Pt × Nat) × (Pt × Nat),(oe=.ok q.1.1 q.1.2∧ob=.ok q.2.1 q.2.2)∧l=[q.1.1,q.2.1]:=fun l j hl=>by
  obtain ⟨y0,y1,⟨j0,h0⟩,⟨j1,h1⟩,h2⟩:=HPP l j hl
  exact ⟨((y0,j0),(y1,j1)),⟨h0,h1⟩,h2⟩
 have HPR:∀ l j,oL=.ok l j→∃ uG Ar Ks Tm,oe=.ok uG Ar∧ob=.ok Ks Tm∧l=[uG,Ks]:=fun l j hl=>by
  obtain ⟨y0,y1,⟨j0,h0⟩,⟨j1,h1⟩,h2⟩:=HPP l j hl
  exact ⟨y0,j0,y1,j1,h0,h1,h2⟩
 have ma:=(xZ.out.block oG (af.1 ni.out).1 (by have:=jJ.out;have:=dP.out.size;omega)).trans ni.out;obtain ⟨⟨vY,vZ,wm,wu,wy⟩,-⟩:=aF ma;clear ma;have Ez:=(TF.out.block Tp (af.1 Ka.out).1 (by have:=DY.out;have:=dP.out.size;omega)).trans Ka.out;obtain ⟨⟨Tq,Tt,Tu,Tv,Tw⟩,-⟩:=aF Ez;clear Ez;obtain ⟨z,hz⟩:∃ z,V5.heap.size=z:=⟨_,rfl⟩;obtain ⟨Z,hZ⟩:∃ Z,V5.alloc (.cells #[.string jQ,.string jR,.int .i64 jS,.int .i64 jT,.slice jU jV jW,.string FQ,.string FR,.int .i64 FT,.int .i64 FU,.slice FV FW FX] 49)=Z:=⟨_,rfl⟩
 have hzb:Below V5.heap.size V5 Z:=by rw [← hZ];exact (aj _ V5).alloc (ae _) _
 have Zr:dY W1.heap.size oL (.slice (some ⟨V5.heap.size,0,none⟩) 2 2) 2 [.string jQ,.string jR,.int .i64 jS,.int .i64 jT,.slice jU jV jW,.string FQ,.string FR,.int .i64 FT,.int .i64 FU,.slice FV FW FX] Z:=dY.made hZ mK.out.size rfl (by decide) Pw (fun l j hl=>by
  obtain ⟨uG,Ar,Ks,Tm,hx0,hx1,rfl⟩:=HPR l j hl;refine ⟨rfl,?_⟩;obtain ⟨LW,xY⟩:=rU.out uG Ar hx0;have J4:Mv w4.heap.size d w4 V5:=lK.out.trans (xZ.out.mono lK.out.size);have LX:=(aT.live _ _ xY).later (W':=V5) (R':=fun g=>W1.heap.size≤g∧g<V5.heap.size) (J4.still (ae _) (fun g hg=>by have:=jJ.out;have:=dP.out.size;omega)) (fun g hg=>by have:=jJ.out;have:=J4.size;omega);obtain ⟨ux1,Tx⟩:=Tn.out Ks Tm hx1;have sx1:Mv w5.heap.size d w5 V5:=Kb.out.trans (TF.out.mono Kb.out.size);have ix1:=(aT.live _ _ Tx).later (W':=V5) (R':=fun g=>W1.heap.size≤g∧g<V5.heap.size) (sx1.still (ae _) (fun g hg=>by have:=DY.out;have:=dP.out.size;omega)) (fun g hg=>by have:=DY.out;have:=sx1.size;omega)
  show aO V5 _ _ (([.string jQ,.string jR,.int .i64 jS,.int .i64 jT,.slice jU jV jW]:List Value)++([.string FQ,.string FR,.int .i64 FT,.int .i64 FU,.slice FV FW FX]:List Value)++[])
  rw [jF LW,jF ux1];simp only [dC]
  exact ⟨_,_,rfl,LX,⟨_,_,rfl,ix1,rfl⟩⟩)
 have qi:=hid (mK.out.trans ((Mv.of_below (d:=d) hzb).mono mK.out.size));have Bg:=hid (uV.out.below hzb);rw [hz] at Zr;have YA:=hid Zr
 go_upto_region 6 with fail
 try rw [hZ]
 try rw [hz]
 clear hzb Zr hZ hz vY vZ wm wu wy Tq Tt Tu Tv Tw;clear HPP HPQ HPR;have c8:=fE d L lv ob.at ob.aA mM Z Bg.out (HT1.out.mv qi.out (ae _)) (by have:=D4.out.le;omega);rw [show aU mM=⟨#[101,108,115,101]⟩ from rfl] at c8;obtain ⟨R1,lL⟩:∃ R,(!ob.aA&&bG L mM ob.at)=R:=⟨_,rfl⟩;rw [lL] at c8;have HA:=hid lL;clear lL
 cases R1
 ·go_wp2_with fail
  refine c8.mono ?_;rintro x w8 ⟨rfl,hw8⟩;have hw8:kz d lv ob.at ob.aA Z w8:=hw8;have lF:=hid (qi.out.trans (hw8.2.mono qi.out.size));have tY:=hid hw8.1;have Ir:=hid (YA.out.mv hw8.2 (by have:=dP.out.size;omega))
  have xn:Hid (O=ob.next fun _ k=>part L kJ [] fr [oe.pt,ob.pt] k):=hid (by
   rw [nM.out];have h:=HA.out
   cases ob with
   | bad j=>rfl
   | ok a j =>
    show (if bG L mM j=true then _ else _)=_
    rw [ai (by rw [show bG L mM j=false by simpa [Out.aA,Out.at] using h];decide)]
    rfl)
  have HAT:Hid (O.at=ob.at∧O.aA=ob.aA):=hid (by rw [xn.out];cases ob <;> exact ⟨rfl,rfl⟩)
  have zC:Hid (∀ p j,O=.ok p j→∃ K T ks j',p=.mk K T fr (jY L ob.at) ks∧aU K=⟨#[105,102]⟩∧aU T=⟨#[]⟩∧oL=.ok ks j'):=hid (by
   intro p j fQ;rw [xn.out] at fQ;rw [← HoL.out]
   cases ob with
   | bad j=>cases fQ
   | ok a j2 =>
    simp only [Out.next,part,Out.ok.injEq] at fQ
    exact ⟨_,_,_,j2,fQ.1.symm,rfl,rfl,rfl⟩)
  clear c8 hw8;have cz:=eZ d L lv ob.at ob.aA ⟨#[105,102]⟩ ⟨#[]⟩ fr (some ⟨z,0,none⟩) 2 2 w8 tY.out (HT1.out.mv lF.out (ae _)) D4.out.le hL;obtain ⟨ez,jC⟩:∃ u,jY L ob.at=u:=⟨_,rfl⟩;rw [jC] at cz;have sH:=hid jC;clear jC
  go_wp2_with fail
  refine cz.mono ?_;rintro x wq ⟨rfl,hwq⟩;have Ce:=hid (lF.out.trans (hwq.2.mono lF.out.size));have EA:=hid hwq;have ow:=(af.1 jD.out).1;have jd:wq.heap[w.heap.size]?=_:=(Ce.out.block w.heap.size ow (by omega)).trans jD.out;obtain ⟨⟨r0,r1,r2,r3,r4⟩,gz⟩:=aF jd;have g0:=gz 0;have g1:=gz 1;have g2:=gz 2;have g3:=gz 3;have g4:=gz 4;have pQ:=hid jd;clear cz hwq jd gz
  go_wp2_with fail
  have hp:=dS (a':=.string ⟨#[105,102]⟩) (b':=.string ⟨#[]⟩) (c':=.int .i64 fr) (d':=.int .i64 ez) (e':=.slice (some ⟨z,0,none⟩) 2 2) pQ.out;refine aB (v:=.agg #[.string ⟨#[105,102]⟩,.string ⟨#[]⟩,.int .i64 fr,.int .i64 ez,.slice (some ⟨z,0,none⟩) 2 2]) (aQ rfl _ _ w.heap.size 49 #[.string ⟨#[105,102]⟩,.string ⟨#[]⟩,.int .i64 fr,.int .i64 ez,.slice (some ⟨z,0,none⟩) 2 2] (0,0) _ (by rfl) hp Tryz.underlying49 rfl (by kernel_rfl)) rfl ?_;rw [← HQ.out];refine dO hd (dP.out.trans (Ce.out.mono dP.out.size)) EA.out.1 HAT.out.1 HAT.out.2 ?_ ⟨ae _,ae _⟩;refine nI (Ir.out.mv EA.out.2 (by omega)) (fun g hg=>by omega) (by omega) (fun p j fQ=>?_);rw [← sH.out]
  exact zC.out p j fQ
 ·have hb:ob.aA=false∧bG L mM ob.at=true:=by simpa using HA.out
  have Zk:=hid hb;have hlt:ob.at<L.length:=bR hb.2;obtain ⟨hg1,hg2⟩:=PD.out (acr.out (Zp.out hb.1).1);have hg3:=(Zp.out hb.1).2;have hg4:=acs.out;have hg5:=HN.out hg2;have Pb:=TZ.out.1 hg2;have fw:=jG hb.1;clear hb
  go_wp2_with fail
  refine c8.mono ?_;rintro x w8 ⟨rfl,hw8⟩;have hw8:kz d lv (ob.at+1) ob.aA Z w8:=hw8;rw [Zk.out.1] at hw8;have lF:=hid (qi.out.trans (hw8.2.mono qi.out.size));have tY:=hid hw8.1;have Ir:=hid (YA.out.mv hw8.2 (by have:=dP.out.size;omega));have c9:=iM d L lv (ob.at+1) false kJ w8 tY.out (HT1.out.mv lF.out (ae _));rw [show aU kJ=⟨#[105,102]⟩ from rfl] at c9;obtain ⟨R2,hR2⟩:∃ R,bG L kJ (ob.at+1)=R:=⟨_,rfl⟩;rw [show (!false&&bG L kJ (ob.at+1))=R2 from hR2] at c9;have HA2:=hid hR2;clear c8 hw8 hR2
  cases R2
  focus
   obtain ⟨oo,D7⟩:∃ u,block L m (ob.at+1)=u:=⟨_,rfl⟩
   have xn:Hid (O=oo.next fun o p=>part L kJ [] fr [oe.pt,ob.pt,o] p):=hid (by
    rw [nM.out,← D7];have h1:=Zk.out.2;have h2:=HA2.out;rw [fw]
    show (if bG L mM ob.at=true then _ else _)=_
    rw [ay h1,ai (by rw [h2];decide)]
    rfl)
   have PG:Hid (oo.at≤L.length):=hid (by rw [← D7];exact ((nk L m).block _ hlt).le);have Xf:=hid D7;clear D7
   go_wp2_with fail
   refine c9.mono ?_;intro x w4 h4;obtain ⟨rfl,hw4⟩:=h4.went tY.out;have pJ:=hid (lF.out.trans (hw4.2.mono lF.out.size));have BC:=hid hw4.1;have Bl:=hid (Ir.out.mv hw4.2 (by have:=dP.out.size;omega));have Bh:=hid (HT1.out.mv pJ.out (ae _));clear c9 h4 hw4;have cb:=HIB.out m (.inl Pb) (ob.at+1) false w4 BC.out Bh.out hlt (fun _=>by omega)
  rotate_left
  focus
   obtain ⟨oo,D7⟩:∃ u,branch L m (ob.at+1)=u:=⟨_,rfl⟩
   have xn:Hid (O=oo.next fun o p=>part L kJ [] fr [oe.pt,ob.pt,o] p):=hid (by
    rw [nM.out,← D7];have h1:=Zk.out.2;have h2:=HA2.out;rw [fw]
    show (if bG L mM ob.at=true then _ else _)=_
    rw [ay h1,ay h2]
    rfl)
   have PG:Hid (oo.at≤L.length):=hid (by rw [← D7];exact ((nk L m).branch _ hlt).le);have Xf:=hid D7;clear D7
   go_wp2_with fail
   refine c9.mono ?_;intro x w4 h4;obtain ⟨rfl,hw4⟩:=h4.went tY.out;have pJ:=hid (lF.out.trans (hw4.2.mono lF.out.size));have BC:=hid hw4.1;have Bl:=hid (Ir.out.mv hw4.2 (by have:=dP.out.size;omega));have Bh:=hid (HT1.out.mv pJ.out (ae _));clear c9 h4 hw4;have cb:=HI.out m Pb (ob.at+1) false w4 BC.out Bh.out hlt (fun _=>by omega)
  rotate_left
  all_goals
   rw [aW,Xf.out] at cb
   go_wp2_with fail
   refine cb.mono ?_;rintro x v5 ⟨v,rfl,⟨kb,tb,fb,eb,ab,nb,kS,rfl,hnb,hvb⟩,jA⟩;have D3:dY W1.heap.size oL (.slice (some ⟨z,0,none⟩) 2 2) 2 [.string jQ,.string jR,.int .i64 jS,.int .i64 jT,.slice jU jV jW,.string FQ,.string FR,.int .i64 FT,.int .i64 FU,.slice FV FW FX] (v5.alloc (.cells #[.string kb,.string tb,.int .i64 fb,.int .i64 eb,.slice ab nb kS] 49)):=(Bl.out.mv jA.2 (by have:=dP.out.size;omega)).mv (Mv.of_below (d:=d) ((aj _ v5).alloc (ae _) _)) (by have:=dP.out.size;omega);have hbx:Below v5.heap.size v5 (v5.alloc (.cells #[.string kb,.string tb,.int .i64 fb,.int .i64 eb,.slice ab nb kS] 49)):=(aj _ v5).alloc (ae _) _
   have hsx:W1.heap.size≤(v5.alloc (.cells #[.string kb,.string tb,.int .i64 fb,.int .i64 eb,.slice ab nb kS] 49)).heap.size:=by have:=jA.2.size;have:=pJ.out.size;have:=hbx.size;omega
   have Hw:=hid hvb;have qA:=hid jA;have yj:=hid D3;have xB:=hid hbx;clear cb hvb jA D3 hbx hnb
   go_wp2_with (at_builtin;refine dG _ rfl _ _ 47 rfl W1.heap.size 49 iP _ 5 72 Tryz.underlying47 hi0 hz0 hz1 hz2 rfl (by decide) _ 2 [.string jQ,.string jR,.int .i64 jS,.int .i64 jT,.slice jU jV jW,.string FQ,.string FR,.int .i64 FT,.int .i64 FU,.slice FV FW FX] rfl yj.out.own ⟨v5.heap.size,0,none⟩ 1 1 [.string kb,.string tb,.int .i64 fb,.int .i64 eb,.slice ab nb kS] rfl rfl (qo (aG v5 _)) qm (by unfold maxLen;omega) (by omega) hsx ?_)
   intro v' w7 bY aP _ mf
   have hrow:v'.ownBlock=(Value.slice (some ⟨z,0,none⟩) 2 2).ownBlock∨v'.ownBlock=some (v5.alloc (.cells #[.string kb,.string tb,.int .i64 fb,.int .i64 eb,.slice ab nb kS] 49)).heap.size:=by simpa using mf
   clear mf
   have hown1:∀ k,(Value.slice (some ⟨z,0,none⟩) 2 2).ownBlock=some k→W1.heap.size≤k:=fun k hk=>(yj.out.own.lt k hk).1
   have hd1:d<W1.heap.size:=by have:=dP.out.size;omega
   have sw:Hid (Rd d lv oo.at oo.aA w7):=hid (by
    have h:=qA.out.1.below xB.out
    exact (aP.block d h.lt (fun h'=>by have:=hown1 d h'.symm;omega)).trans h)
   have iN:Hid (Mv W1.heap.size d W1 w7):=hid (pJ.out.trans ((qA.out.2.mono pJ.out.size).trans (((Mv.of_below xB.out).mono (by have:=qA.out.2.size;have:=pJ.out.size;omega)).trans ⟨aP.os,aP.tape,aP.output,aP.size,fun k hk _=>aP.block k (by omega) (fun h'=>by have:=hown1 k h'.symm;omega)⟩)))
   have Ej:Hid (dY W1.heap.size (oo.next fun o p=>Out.ok [oe.pt,ob.pt,o] p) v' (2+1) ([.string jQ,.string jR,.int .i64 jS,.int .i64 jT,.slice jU jV jW,.string FQ,.string FR,.int .i64 FT,.int .i64 FU,.slice FV FW FX]++[.string kb,.string tb,.int .i64 fb,.int .i64 eb,.slice ab nb kS]) w7):=hid (yj.out.snoc Bl.out (ae _) pJ.out.size Hw.out xB.out bY aP hrow (fun l j hl=>by
    cases oo with
    | bad k=>cases hl
    | ok o k =>
     cases hl
     exact ⟨[oe.pt,ob.pt],ob.at,o,_,by rw [← HoL.out,fw];rfl,rfl,rfl⟩))
   obtain ⟨la,lc,hv'⟩:=Ej.out.form;subst hv';clear bY aP hrow hown1 hd1 hsx;have HAT:Hid (O.at=oo.at∧O.aA=oo.aA):=hid (by rw [xn.out];cases oo <;> exact ⟨rfl,rfl⟩)
   have zC:Hid (∀ p j,O=.ok p j→∃ K T ks j',p=.mk K T fr (jY L oo.at) ks∧aU K=⟨#[105,102]⟩∧aU T=⟨#[]⟩∧(oo.next fun o p=>Out.ok [oe.pt,ob.pt,o] p)=.ok ks j'):=hid (by
    intro p j fQ;rw [xn.out] at fQ
    cases oo with
    | bad j=>cases fQ
    | ok a j2 =>
     simp only [Out.next,part,Out.ok.injEq] at fQ
     exact ⟨_,_,_,j2,fQ.1.symm,rfl,rfl,rfl⟩)
   have cz:=eZ d L lv oo.at oo.aA ⟨#[105,102]⟩ ⟨#[]⟩ fr la (2+1) lc w7 sw.out (HT1.out.mv iN.out (ae _)) PG.out hL;obtain ⟨ez,jC⟩:∃ u,jY L oo.at=u:=⟨_,rfl⟩;rw [jC] at cz;have sH:=hid jC;clear jC
   go_wp2_with fail
   refine cz.mono ?_;rintro x wq ⟨rfl,hwq⟩;have Ce:=hid (iN.out.trans (hwq.2.mono iN.out.size));have EA:=hid hwq;have ow:=(af.1 jD.out).1;have jd:wq.heap[w.heap.size]?=_:=(Ce.out.block w.heap.size ow (by omega)).trans jD.out;obtain ⟨⟨r0,r1,r2,r3,r4⟩,gz⟩:=aF jd;have g0:=gz 0;have g1:=gz 1;have g2:=gz 2;have g3:=gz 3;have g4:=gz 4;have pQ:=hid jd;clear cz hwq jd gz
   go_wp2_with fail
   have hp:=dS (a':=.string ⟨#[105,102]⟩) (b':=.string ⟨#[]⟩) (c':=.int .i64 fr) (d':=.int .i64 ez) (e':=.slice la (2+1) lc) pQ.out;refine aB (v:=.agg #[.string ⟨#[105,102]⟩,.string ⟨#[]⟩,.int .i64 fr,.int .i64 ez,.slice la (2+1) lc]) (aQ rfl _ _ w.heap.size 49 #[.string ⟨#[105,102]⟩,.string ⟨#[]⟩,.int .i64 fr,.int .i64 ez,.slice la (2+1) lc] (0,0) _ (by rfl) hp Tryz.underlying49 rfl (by kernel_rfl)) rfl ?_;rw [← HQ.out];refine dO hd (dP.out.trans (Ce.out.mono dP.out.size)) EA.out.1 HAT.out.1 HAT.out.2 ?_ ⟨ae _,ae _⟩;refine nI (Ej.out.mv EA.out.2 (by omega)) (fun g hg=>by omega) (by omega) (fun p j fQ=>?_);rw [← sH.out]
   exact zC.out p j fQ
end T
end Go.Proofs.YtojoahlpgmnbnaaGreatDoor
