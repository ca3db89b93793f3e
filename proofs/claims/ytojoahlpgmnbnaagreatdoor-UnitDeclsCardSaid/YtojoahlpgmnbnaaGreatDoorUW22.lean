/- What the claim needs of the texts TBlock, TBranch. -/
import Derived.Test.YtojoahlpgmnbnaaGreatDoorUWOp
import Derived.Test.YtojoahlpgmnbnaaGreatDoorUW21
set_option maxRecDepth 20000
set_option maxHeartbeats 16000000
namespace Go.Proofs.YtojoahlpgmnbnaaGreatDoor
namespace T
open Go.RowKit
open Go.Lib hiding intOf
open U S L
def xx (d:Nat) (L:List bn) (lv:Value) (n:Nat):Prop:=∀ (i:Nat) (b:Bool) (w:World),Rd d lv i b w→Tk d L lv w→i≤L.length→(b=false→8*(L.length - i)+3≤n) →
 Calls Tryz.prog 65 #[.pointer (some ⟨d,0,none⟩)] w (Reads d lv (start b i (block L n i)) w)
def My (d:Nat) (L:List bn) (lv:Value) (n:Nat):Prop:=∀ (i:Nat) (b:Bool) (w:World),Rd d lv i b w→Tk d L lv w→i≤L.length→(b=false→8*(L.length - i)+4≤n) →
 Calls Tryz.prog 85 #[.pointer (some ⟨d,0,none⟩)] w (Reads d lv (start b i (stmt L n i)) w)
theorem MB (d:Nat) (L:List bn) (lv:Value) (hL:L.length≤1000000) (n:Nat) (ih:∀ m,m<n→My d L lv m):xx d L lv n:=by
 intro i b w hR hT hi hn;obtain ⟨O,hO⟩:∃ O,start b i (block L n i)=O:=⟨_,rfl⟩;have HO:=hid hO;have HI:=hid ih;rw [hO];clear hO ih;have hd:=hR.lt;obtain ⟨W1,hW1⟩:∃ W1,w.alloc gu=W1:=⟨_,rfl⟩
 have hb1:Below w.heap.size w W1:=by rw [← hW1];exact (ah _ w).alloc (ae _) _
 have dN:=hid (Mv.of_below (d:=d) hb1)
 have hq1:W1.heap[w.heap.size]?=some (.cells #[.string ⟨#[]⟩,.string ⟨#[]⟩,.int .i64 0,.int .i64 0,.slice none 0 0] 49 (0,0)):=by rw [← hW1];exact aG w _
 have lK:Rd d lv i b W1:=hR.below hb1;have hT1:=hT.mv (Mv.of_below hb1) (ae _);have c1:=nC d L lv i b W1 lK hT1;obtain ⟨fr,hfr⟩:∃ fr,bQ L i=fr:=⟨_,rfl⟩;rw [hfr] at c1;have AM:=hid hfr;have HW1:=hid hW1;have jC:=hid hq1;have HR1:=hid lK;have HT1:=hid hT1;have HT0:=hid hT;have HN:=hid hn;obtain ⟨Q,hQ⟩:∃ Q,Reads d lv O w=Q:=⟨_,rfl⟩;have HQ:=hid hQ;rw [hQ];clear hW1 hq1 hb1 lK hT1 hfr hn hQ hR hT
 go_enter Tryz.func65,Tryz.ntmps65
 go_wp2_with fail
 rw [HW1.out];refine c1.mono ?_;intro x w2 h2;obtain ⟨rfl,hw2⟩:=h2.went HR1.out;have kG:=hid hw2.2;have HR2:=hid hw2.1;clear c1 h2 hw2;obtain ⟨om,mH⟩:∃ u,start b i (bJ L [123] i)=u:=⟨_,rfl⟩;obtain ⟨zO,wV⟩:∃ u,om.at+(if om.az then 0 else bE L om.at)=u:=⟨_,rfl⟩
 obtain ⟨m,hm⟩:∃ m,(b=false→n=m+1)∧(b=true→m=0):=by
  cases b
  ·exact ⟨n - 1,fun _=>by have:=HN.out rfl;omega,fun h=>by cases h⟩
  ·exact ⟨0,fun h=>by (cases h),fun _=>rfl⟩
 obtain ⟨OL,BB⟩:∃ u,start om.az zO (stmts L m zO [])=u:=⟨_,rfl⟩;have sP:Hid (pI L i b (start b i (Out.ok () i:Out Unit))):=hid (.begun hi ⟨ae _,hi⟩);have qx:Hid (pI L i b om):=hid (by rw [← mH];exact .begun hi (bU _ hi).toFw)
 have PW:Hid (om.az=false→om.at=i+1∧b=false):=hid (by
  rw [← mH]
  cases b
  ·rw [aZ]
   unfold bJ
   cases bH L [123] i
   ·intro h;cases h
   ·exact fun _=>⟨rfl,rfl⟩
  ·intro h;cases h)
 have TT:Hid (zO≤L.length∧om.at≤zO):=hid (by
  have h1:=qx.out.le
  cases hb:om.az
  ·rw [hb,ai (by decide)] at wV
   have:=kW L h1
   omega
  ·rw [hb,au rfl] at wV
   omega)
 have BR:Hid (OL.at≤L.length):=hid (by
  rw [← BB]
  cases om.az
  ·exact ((nG L m).stmts zO TT.out.1 []).le
  ·exact TT.out.1)
 obtain ⟨MC,Ei⟩:∃ u,start OL.az OL.at (bJ L [125] OL.at)=u:=⟨_,rfl⟩
 have ZC:Hid (MC.at≤L.length):=hid (by
  rw [← Ei]
  cases OL.az
  ·exact (bU _ BR.out).le
  ·exact BR.out)
 have nU:Hid (O=OL.next fun l k=>(bJ L [125] k).next fun _ q=>part L ou [] fr l q):=hid (by
  rw [← HO.out,← BB,← AM.out]
  cases b
  ·have hm1:=hm.1 rfl
   subst hm1;rw [aZ,Eh];have mH:bJ L [123] i=om:=mH;rw [mH]
   cases om with
   | bad j =>
    have:j=zO:=wV;rw [← this];rfl
   | ok u j =>
    have:j+bE L j=zO:=wV;rw [← this];rfl
  ·rw [← wV,← mH];rfl)
 have HAT:Hid (O.at=MC.at∧O.az=MC.az):=hid (by rw [nU.out];exact F4 Ei)
 have zN:Hid (∀ p j,O=.ok p j→∃ K T ks j',p=.mk K T fr (jZ L MC.at) ks∧aX K=⟨#[98,108,111,99,107]⟩∧aX T=⟨#[]⟩∧OL=.ok ks j'):=hid (by
  intro p j fK;rw [nU.out] at fK;obtain ⟨ks,j',h1,h2⟩:=zJ Ei fK
  exact ⟨_,_,ks,j',h1,rfl,rfl,h2⟩)
 obtain ⟨iP,hi0,hz0,hz1,hz2⟩:=nY AU;have Ih:=hid mH;have ZD:=hid wV;have Zw:=hid BB;have ZE:=hid Ei;have Ui:=hid hm;clear mH wV BB Ei hm;have c3:=jc d L lv i b [123] w2 HR2.out (HT1.out.mv kG.out (ae _)) (by have:=sP.out.le;omega);rw [Ih.out,show aX [123]=⟨#[123]⟩ from rfl] at c3
 go_wp2_with fail
 refine c3.mono ?_;rintro x w3 ⟨rfl,hw3⟩;have lh:=hid (kG.out.trans (hw3.2.mono kG.out.size));have HR3:=hid hw3.1
 skip
 clear c3 hw3;have c4:=nX d L lv om.at om.az w3 HR3.out (HT1.out.mv lh.out (ae _)) qx.out.le hL;rw [ZD.out] at c4;obtain ⟨RS4,acD⟩:∃ R,decide (0<(if om.az then 0 else bE L om.at))=R:=⟨_,rfl⟩;rw [acD] at c4;clear acD
 go_wp2_with fail
 refine c4.mono ?_;rintro x w4 ⟨rfl,hw4⟩;have mO:=hid (lh.out.trans (hw4.2.mono lh.out.size));have HR4:=hid hw4.1;clear c4 hw4
 have Ee:Hid (jQ d L lv W1 OL (fun m j l=>stmts L m j l) 0 m false (start om.az zO (.ok [] zO)) (.slice none 0 0) 0 [] m w4):=hid (by
  have h1:(start om.az zO (.ok [] zO:Out (List Pt))).at=zO:=by cases om.az <;> rfl
  have h2:(start om.az zO (.ok [] zO:Out (List Pt))).az=om.az:=by cases om.az <;> rfl
  refine ⟨?_,by rw [h1,h2];exact HR4.out,mO.out,(dX.nil _ zO _).out (fun l j h=>?_),by rw [h1];exact TT.out.1,aM _,?_,fun _ hb=>?_⟩
  ·rw [ai (by decide),← Zw.out]
   cases om.az <;> rfl
  ·cases hb:om.az
   ·rw [hb] at h
    cases h
    exact ⟨_,rfl⟩
   ·rw [hb] at h
    cases h
  ·rw [h1,h2]
   cases hb:om.az
   ·have:=(PW.out hb).1
    have:=TT.out.2;rw [ai (by decide)];omega
   ·rw [au rfl];omega
  ·rw [h1]
   rw [h2] at hb;obtain ⟨h3,h4⟩:=PW.out hb;have h5:=Ui.out.1 h4;have h6:=HN.out h4;have h7:=TT.out.2;have h8:=qx.out.le
   omega)
 go_wp2_with fail
 go_loopw [4] (fun av wr=>∃ (o:Out (List Pt)) (v:Value) (nn:Nat) (xs:List Value) (mm:Nat),av=v∧Hid (jQ d L lv W1 OL (fun m j l=>stmts L m j l) 0 (m) false o v nn xs mm wr)) (fun _ wr=>(L.length+1 - atR d wr)*2+nZ d wr)
 case atStart=>exact ⟨_,_,0,[],_,rfl,Ee⟩
 case round =>
  clear Ee;obtain ⟨o,v,nn,xs,mm,rfl,fC⟩:=hrel;obtain ⟨la,lc,Zx⟩:=fC.out.list.form;subst Zx;have ci:=iJ d L lv o.at o.az [125] wr fC.out.rd (HT1.out.mv fC.out.mv (ae _));rw [show aX [125]=⟨#[125]⟩ from rfl] at ci
  cases fu:o.az
  focus
   rw [fu] at ci;obtain ⟨R4,PX⟩:∃ R,bH L [125] o.at=R:=⟨_,rfl⟩;rw [show (!false&&bH L [125] o.at)=R4 from PX] at ci
   cases R4
   ·have TU:Hid (Rd d lv o.at false wr):=hid (by rw [← fu];exact fC.out.rd)
    have H4:=hid PX
    go_wp2_with (fail)
    refine ci.mono ?_;intro x w4 h4;obtain ⟨rfl,hw4⟩:=h4.went TU.out;have hc2:=hw4.1.c2;have vE:=hid hw4;clear ci h4 hw4 PX;obtain ⟨l,hl⟩:=yB fu;obtain ⟨oa,hoa⟩:∃ u,o.at=u:=⟨_,rfl⟩;rw [hoa] at hl;subst hl;have hfu2:=fC.out.fuel rfl rfl;have hle:oa≤L.length:=fC.out.le;have hcn:nn+1≤oa:=fC.out.cnt;have Zy:8*(L.length - oa)+5≤mm:=hfu2.1;have Zz:mm≤m:=hfu2.2;obtain ⟨m',rfl⟩:∃ m',mm=m'+1:=⟨mm - 1,by omega⟩;obtain ⟨ob,pO⟩:∃ u,start false oa (stmt L m' oa)=u:=⟨_,rfl⟩;have sQ:Hid (wI L oa ob):=hid (by rw [← pO,aZ];exact (nG L m').stmt oa hle)
    have yA:Hid (OL=ob.next fun p j=>if bE L j=0∧bH L [125] j=false then .bad j else stmts L m' (j+bE L j) (l++[p])):=hid (by
     have h:=fC.out.out;rw [ai (by decide)] at h;rw [h,← pO,aZ]
     exact (yF L m' oa l).trans (ai (by rw [show bH L [125] oa=false from H4.out];decide)))
    have BC:Hid (dX W1.heap.size (.ok l oa) (.slice la nn lc) nn xs w4):=hid (fC.out.list.mv vE.out.2 (by have:=dN.out.size;omega));have pQ:Hid (Mv W1.heap.size d W1 w4):=hid (fC.out.mv.trans (vE.out.2.mono fC.out.mv.size));have BQ:Hid (Rd d lv oa false w4):=hid vE.out.1;have Bz:=hid (HT1.out.mv pQ.out (ae _));have yD:Hid (atR d wr=oa):=hid fC.out.rd.at;have AV:Hid (nZ d wr=1):=hid fC.out.rd.good;have cb:=HI.out m' (by have h9:=Ui.out;cases b <;> simp at h9 <;> omega) oa false w4 BQ.out Bz.out hle (fun _=>by omega);rw [pO] at cb;have k2:=BQ.out.c2;clear pO hfu2 fu hoa
    go_wp2_with fail
    refine cb.mono ?_;rintro x v5 ⟨v,rfl,⟨kb,tb,fb,eb,ab,nb,kQ,rfl,hnb,hvb⟩,jr⟩;have Ef:dX W1.heap.size (.ok l oa) (.slice la nn lc) nn xs (v5.alloc (.cells #[.string kb,.string tb,.int .i64 fb,.int .i64 eb,.slice ab nb kQ] 49)):=(BC.out.mv jr.2 (by have:=dN.out.size;omega)).mv (Mv.of_below (d:=d) ((ah _ v5).alloc (ae _) _)) (by have:=dN.out.size;omega);have hbx:Below v5.heap.size v5 (v5.alloc (.cells #[.string kb,.string tb,.int .i64 fb,.int .i64 eb,.slice ab nb kQ] 49)):=(ah _ v5).alloc (ae _) _
    have hsx:W1.heap.size≤(v5.alloc (.cells #[.string kb,.string tb,.int .i64 fb,.int .i64 eb,.slice ab nb kQ] 49)).heap.size:=by have:=jr.2.size;have:=pQ.out.size;have:=hbx.size;omega
    have Il:=hid hvb;have qE:=hid jr;have yE:=hid Ef;have xL:=hid hbx;clear cb hvb jr Ef hbx hnb k2
    go_wp2_with (at_builtin;refine dD _ rfl _ _ 47 rfl W1.heap.size 49 iP _ 5 72 Tryz.underlying47 hi0 hz0 hz1 hz2 rfl (by decide) _ nn xs rfl yE.out.own ⟨v5.heap.size,0,none⟩ 1 1 [.string kb,.string tb,.int .i64 fb,.int .i64 eb,.slice ab nb kQ] rfl rfl (qz (aG v5 _)) qy (by unfold maxLen;omega) (by omega) hsx ?_)
    intro v' w7 bP aN _ mg
    have hrow:v'.ownBlock=(Value.slice la nn lc).ownBlock∨v'.ownBlock=some (v5.alloc (.cells #[.string kb,.string tb,.int .i64 fb,.int .i64 eb,.slice ab nb kQ] 49)).heap.size:=by simpa using mg
    clear mg
    have Ew:Hid (∀ o':Out (List Pt),(∀ l' j',o'=.ok l' j'→∃ p jp,ob=.ok p jp∧l'=l++[p])→dX W1.heap.size o' v' (nn+1) (xs++[.string kb,.string tb,.int .i64 fb,.int .i64 eb,.slice ab nb kQ]) w7):=hid (fun o' ho'=>yE.out.snoc BC.out (ae _) pQ.out.size Il.out xL.out bP aN hrow (fun l' j' hl'=>by
     obtain ⟨p,jp,h1,h2⟩:=ho' l' j' hl'
     exact ⟨l,oa,p,jp,rfl,h1,h2⟩))
    have hown1:∀ k,(Value.slice la nn lc).ownBlock=some k→W1.heap.size≤k:=fun k hk=>(yE.out.own.lt k hk).1
    have hd1:d<W1.heap.size:=by have:=dN.out.size;omega
    have sH:Hid (Rd d lv ob.at ob.az w7):=hid (by
     have h:=qE.out.1.below xL.out
     exact (aN.block d h.lt (fun h'=>by have:=hown1 d h'.symm;omega)).trans h)
    have iK:Hid (Mv W1.heap.size d W1 w7):=hid (pQ.out.trans ((qE.out.2.mono pQ.out.size).trans (((Mv.of_below xL.out).mono (by have:=qE.out.2.size;have:=pQ.out.size;omega)).trans ⟨aN.os,aN.tape,aN.output,aN.size,fun k hk _=>aN.block k (by omega) (fun h'=>by have:=hown1 k h'.symm;omega)⟩)));have c8:=nX d L lv ob.at ob.az w7 sH.out (HT1.out.mv iK.out (ae _)) sQ.out.le hL;obtain ⟨S8,EN⟩:∃ u,(if ob.az then 0 else bE L ob.at)=u:=⟨_,rfl⟩;rw [EN] at c8;obtain ⟨p8,AX⟩:∃ u,ob.at+S8=u:=⟨_,rfl⟩;rw [AX] at c8
    have AY:Hid (p8≤L.length∧oa≤p8∧(ob.az=false→oa<p8)∧p8=ob.at+S8):=hid (by
     have h1:=sQ.out.ge;have h2:=sQ.out.le;refine ⟨?_,by omega,fun h=>by have:=sQ.out.gt h;omega,AX.symm⟩
     cases hb:ob.az
     ·rw [hb,ai (by decide)] at EN
      have:=kW L h2
      omega
     ·rw [hb,au rfl] at EN
      omega)
    obtain ⟨R9,Mr⟩:∃ R,decide (0<S8)=R:=⟨_,rfl⟩;rw [Mr] at c8;have HS8:=hid EN;have H9:=hid Mr
    have HGO:Hid (ob.az=false→(0<S8∨bH L [125] p8=true)→OL=(Out.ok (l++[ob.pt]) p8).next fun acc k=>stmts L m' k acc):=hid (fun hb h=>by
     rw [yA.out];rw [hb,ai (by decide)] at EN;have h1:=jF hb;rw [h1];have e1:(Out.ok ob.pt ob.at).at=ob.at:=rfl;have e2:(Out.ok ob.pt ob.at).pt=ob.pt:=rfl
     show (if bE L ob.at=0∧bH L [125] ob.at=false then _ else _)=_
     rw [ai (fun hh=>by
      rcases h with h|h
      ·omega
      ·rw [← AX,← EN,hh.1,bV,hh.2] at h;cases h),EN,AX]
     rfl)
    have ZF:Hid (¬ 0<S8→(!ob.az&&bH L [125] p8)=false→OL=.bad p8):=hid (fun h1 h2=>by
     rw [yA.out]
     have h0:S8=0:=by omega
     rw [h0,bV] at AX
     cases ob with
     | bad j =>
      have AX:j=p8:=AX;rw [← AX];rfl
     | ok a j =>
      have AX:j=p8:=AX;have EN:bE L j=S8:=EN
      have h2:bH L [125] p8=false:=by simpa [Out.az] using h2
      show (if bE L j=0∧bH L [125] j=false then _ else _)=_
      rw [au ⟨by omega,by rw [AX];exact h2⟩,AX])
    have IK:Hid (ob.az=false→dX W1.heap.size (Out.ok (l++[ob.pt]) p8) v' (nn+1) (xs++[.string kb,.string tb,.int .i64 fb,.int .i64 eb,.slice ab nb kQ]) w7):=hid (fun hb=>Ew.out _ (fun l' j' hl'=>by
     cases hl'
     exact ⟨ob.pt,ob.at,jF hb,rfl⟩))
    have HL9:Hid (dX W1.heap.size (Out.bad p8) v' (nn+1) (xs++[.string kb,.string tb,.int .i64 fb,.int .i64 eb,.slice ab nb kQ]) w7):=hid (Ew.out _ (fun l' j' hl'=>by cases hl'));clear bP aN hrow hown1 hd1 Mr hsx EN AX
    cases R9
    ·go_wp2_with fail
     refine c8.mono ?_;rintro x w8 ⟨rfl,hw8⟩;have lD:=hid (iK.out.trans (hw8.2.mono iK.out.size));have PT:=hid hw8;have c9:=iJ d L lv p8 ob.az [125] w8 hw8.1 (HT1.out.mv lD.out (ae _));rw [show aX [125]=⟨#[125]⟩ from rfl] at c9;obtain ⟨RX,ZG⟩:∃ R,(!ob.az&&bH L [125] p8)=R:=⟨_,rfl⟩;rw [ZG] at c9;have HX:=hid ZG;clear c8 hw8 ZG
     cases RX
     ·go_wp2_with fail
      refine c9.mono ?_;intro x w9 h9;obtain ⟨rfl,dU⟩:=h9.went PT.out.1;have jw:=hid (lD.out.trans (dU.2.mono lD.out.size));have k2:=dU.1.c2;have f2:=dU.1.f2;obtain ⟨WE,hWE⟩:∃ W,w9.setCell ⟨d,2,none⟩ (.bool true)=W:=⟨_,rfl⟩
      have Wx:Rd d lv p8 true WE:=by rw [← hWE];exact dU.1.set2 true
      have ZH:Mv w9.heap.size d w9 WE:=by rw [← hWE];exact (Mv.refl _ _ _).setCell 2 _
      have oJ:Hid (jQ d L lv W1 OL (fun m j l=>stmts L m j l) 0 (m) false (Out.bad p8) v' (nn+1) (xs++[.string kb,.string tb,.int .i64 fb,.int .i64 eb,.slice ab nb kQ]) m' WE):=hid ⟨by rw [ai (by decide)];exact ZF.out (by simpa using H9.out) HX.out,Wx,jw.out.trans (ZH.mono jw.out.size),((HL9.out.mv PT.out.2 (by have:=dN.out.size;omega)).mv dU.2 (by have:=dN.out.size;omega)).mv ZH (by have:=dN.out.size;omega),AY.out.1,aM _,by show nn+1+0≤p8;have:=AY.out;omega,fun _ hb=>by cases hb⟩;have sU:Hid (atR d WE=p8∧nZ d WE=0):=hid ⟨Wx.at,Wx.good⟩;clear c9 h9 dU Wx ZH
      go_wp2_with fail
      go_roundw
      case rel=>exact ⟨_,_,_,_,m',rfl,oJ⟩
      case measure =>
       rw [sU.out.1,sU.out.2,yD.out,AV.out];have h1:=AY.out
       omega
     ·have oP:ob.az=false∧bH L [125] p8=true:=by simpa using HX.out
      have vz:=hid oP;clear oP
      go_wp2_with fail
      refine c9.mono ?_;intro x w9 h9;obtain ⟨rfl,dU⟩:=h9.went PT.out.1;rw [vz.out.1] at dU;have jw:=hid (lD.out.trans (dU.2.mono lD.out.size));have oJ:Hid (jQ d L lv W1 OL (fun m j l=>stmts L m j l) 0 (m) false (Out.ok (l++[ob.pt]) p8) v' (nn+1) (xs++[.string kb,.string tb,.int .i64 fb,.int .i64 eb,.slice ab nb kQ]) m' w9):=hid ⟨by rw [ai (by decide)];exact HGO.out vz.out.1 (.inr vz.out.2),dU.1,jw.out,((IK.out vz.out.1).mv PT.out.2 (by have:=dN.out.size;omega)).mv dU.2 (by have:=dN.out.size;omega),AY.out.1,aM _,by show nn+1+1≤p8;have:=AY.out.2.2.1 vz.out.1;omega,fun _ _=>by show 8*(L.length - p8)+5≤m'∧m'≤m;have:=AY.out.2.2.1 vz.out.1;have:=bR vz.out.2;omega⟩;have sU:Hid (atR d w9=p8∧nZ d w9=1):=hid ⟨dU.1.at,dU.1.good⟩;clear c9 h9 dU
      go_wp2_with fail
      go_roundw
      case rel=>exact ⟨_,_,_,_,m',rfl,oJ⟩
      case measure =>
       rw [sU.out.1,sU.out.2,yD.out,AV.out];have h1:=AY.out.2.2.1 vz.out.1;have h2:=AY.out.1
       omega
    ·have hS:0<S8:=by simpa using H9.out
     have oP:ob.az=false:=by
      cases hb:ob.az
      ·rfl
      ·have h:=HS8.out
       rw [hb,au rfl] at h
       omega
     have vz:=hid oP;have HS:=hid hS;clear oP hS
     go_wp2_with fail
     refine c8.mono ?_;rintro x w8 ⟨rfl,hw8⟩;rw [vz.out] at hw8;have lD:=hid (iK.out.trans (hw8.2.mono iK.out.size));have oJ:Hid (jQ d L lv W1 OL (fun m j l=>stmts L m j l) 0 (m) false (Out.ok (l++[ob.pt]) p8) v' (nn+1) (xs++[.string kb,.string tb,.int .i64 fb,.int .i64 eb,.slice ab nb kQ]) m' w8):=hid ⟨by rw [ai (by decide)];exact HGO.out vz.out (.inl HS.out),hw8.1,lD.out,(IK.out vz.out).mv hw8.2 (by have:=dN.out.size;omega),AY.out.1,aM _,by show nn+1+1≤p8;have:=AY.out.2.2.1 vz.out;omega,fun _ _=>by show 8*(L.length - p8)+5≤m'∧m'≤m;have:=sQ.out.gt vz.out;have:=AY.out;have:=HS.out;omega⟩;have sU:Hid (atR d w8=p8∧nZ d w8=1):=hid ⟨hw8.1.at,hw8.1.good⟩;clear c8 hw8
     go_wp2_with fail
     go_roundw
     case rel=>exact ⟨_,_,_,_,m',rfl,oJ⟩
     case measure =>
      rw [sU.out.1,sU.out.2,yD.out,AV.out];have h1:=AY.out.2.2.1 vz.out;have h2:=AY.out.1
      omega
   have hox:OL=o:=by
    have h:=fC.out.out;rw [ai (by decide)] at h;obtain ⟨l,hl⟩:=yB fu;have hfu:=(fC.out.fuel rfl fu).1;obtain ⟨m',rfl⟩:∃ m',mm=m'+1:=⟨mm - 1,by omega⟩;rw [h];rw [hl] at PX ⊢
    exact (yF L m' o.at l).trans (au PX)
   have TU:Hid (Rd d lv o.at o.az wr):=hid fC.out.rd
   go_wp2_with fail
   refine ci.mono ?_;intro x w4 h4;obtain ⟨rfl,hw4⟩:=h4.went TU.out;have vE:=hid hw4;clear ci h4 hw4 PX fu
  rotate_left
  focus
   have hox:OL=o:=by
    rw [fC.out.out,ai (by decide)]
    cases o with
    | ok a j=>cases fu
    | bad j=>rfl
   have TU:Hid (Rd d lv o.at o.az wr):=hid fC.out.rd;rw [show (!o.az&&bH L [125] o.at)=false by rw [fu];rfl] at ci
   go_wp2_with fail
   refine ci.mono ?_;intro x w4 h4;obtain ⟨rfl,hw4⟩:=h4.went TU.out;have hc2:=hw4.1.c2;rw [fu] at hc2;have vE:=hid hw4;clear ci h4 hw4 fu
  rotate_left
  all_goals
   subst hox;have ZI:=hid (fC.out.mv.trans (vE.out.2.mono fC.out.mv.size));have HLe:=hid (fC.out.list.mv vE.out.2 (by have:=dN.out.size;omega));have HCe:Hid (nn≤1000000):=hid (by have h1:=fC.out.cnt;have h2:=fC.out.le;split at h1 <;> omega);have ce:=jc d L lv OL.at OL.az [125] w4 vE.out.1 (HT1.out.mv ZI.out (ae _)) (by have:=fC.out.le;omega);rw [ZE.out,show aX [125]=⟨#[125]⟩ from rfl] at ce
   go_wp2_with fail
   refine ce.mono ?_;rintro x we ⟨rfl,Wy⟩;have ZJ:=hid (ZI.out.trans (Wy.2.mono ZI.out.size));have HRf:=hid Wy.1;have HLf:=hid (HLe.out.mv Wy.2 (by have:=dN.out.size;omega));clear ce Wy;have cz:=eZ d L lv MC.at MC.az ⟨#[98,108,111,99,107]⟩ ⟨#[]⟩ fr la nn lc we HRf.out (HT1.out.mv ZJ.out (ae _)) ZC.out hL;obtain ⟨ez,jB⟩:∃ u,jZ L MC.at=u:=⟨_,rfl⟩;rw [jB] at cz;have sN:=hid jB;clear jB
   go_wp2_with fail
   refine cz.mono ?_;rintro x wq ⟨rfl,hwq⟩;have Ct:=hid (ZJ.out.trans (hwq.2.mono ZJ.out.size));have EM:=hid hwq;have oH:=(af.1 jC.out).1;have iZ:wq.heap[w.heap.size]?=_:=(Ct.out.block w.heap.size oH (by omega)).trans jC.out;obtain ⟨⟨r0,r1,r2,r3,r4⟩,gz⟩:=aF iZ;have g0:=gz 0;have g1:=gz 1;have g2:=gz 2;have g3:=gz 3;have g4:=gz 4;have pY:=hid iZ;clear cz hwq iZ gz
   go_wp2_with fail
   have hp:=dR (a':=.string ⟨#[98,108,111,99,107]⟩) (b':=.string ⟨#[]⟩) (c':=.int .i64 fr) (d':=.int .i64 ez) (e':=.slice la nn lc) pY.out;refine aA (v:=.agg #[.string ⟨#[98,108,111,99,107]⟩,.string ⟨#[]⟩,.int .i64 fr,.int .i64 ez,.slice la nn lc]) (aQ rfl _ _ w.heap.size 49 #[.string ⟨#[98,108,111,99,107]⟩,.string ⟨#[]⟩,.int .i64 fr,.int .i64 ez,.slice la nn lc] (0,0) _ (by rfl) hp Tryz.underlying49 rfl (by kernel_rfl)) rfl ?_;rw [← HQ.out];refine dM hd (dN.out.trans (Ct.out.mono dN.out.size)) EM.out.1 HAT.out.1 HAT.out.2 ?_ ⟨ae _,ae _⟩;refine nO (HLf.out.mv EM.out.2 (by omega)) (fun g hg=>by omega) (HCe.out) (fun p j fK=>?_);rw [← sN.out]
   exact zN.out p j fK
theorem dX.made {B n:Nat} {W Z:World} {cs:Array Value} {o:Out (List Pt)} (hZ:W.alloc (.cells cs 49)=Z) (hB:B≤W.heap.size) (hs:cs.size=n*5) (hn:n≤1000) (h5:vg n cs.toList)
  (h:∀ l j,o=.ok l j→l.length=n∧aP W (fun g=>B≤g∧g<W.heap.size) l cs.toList):dX B o (.slice (some ⟨W.heap.size,0,none⟩) n n) n cs.toList Z:=by
 subst hZ;refine ⟨World.ownsRow_lit W cs n hB (by unfold maxLen;omega) hs,h5,fun l j hl=>⟨(h l j hl).1,?_⟩⟩;refine aP.later (fun g hg hgl=>heap_alloc_old W _ hgl) (fun g hg=>⟨hg.1,by simp;omega,fun h'=>?_⟩) _ _ (h l j hl).2;simp only [Value.ownBlock,bS] at h'
 omega
def zP (d:Nat) (L:List bn) (lv:Value) (n:Nat):Prop:=∀ (i:Nat) (b:Bool) (w:World),Rd d lv i b w→Tk d L lv w→i≤L.length→(b=false→8*(L.length - i)+3≤n) →
 Calls Tryz.prog 109 #[.pointer (some ⟨d,0,none⟩)] w (Reads d lv (start b i (branch L n i)) w)
theorem Kt (d:Nat) (L:List bn) (lv:Value) (hL:L.length≤1000000) (n:Nat) (ihB:∀ m,n=m+1∨m=0→xx d L lv m) (ih:∀ m,n=m+1→zP d L lv m):zP d L lv n:=by
 intro i b w hR hT hi hn;obtain ⟨O,hO⟩:∃ O,start b i (branch L n i)=O:=⟨_,rfl⟩;have HO:=hid hO;have HI:=hid ih;have HIB:=hid ihB;rw [hO];clear hO ih ihB;have hd:=hR.lt;obtain ⟨W1,hW1⟩:∃ W1,w.alloc gu=W1:=⟨_,rfl⟩
 have hb1:Below w.heap.size w W1:=by rw [← hW1];exact (ah _ w).alloc (ae _) _
 have dN:=hid (Mv.of_below (d:=d) hb1)
 have hq1:W1.heap[w.heap.size]?=some (.cells #[.string ⟨#[]⟩,.string ⟨#[]⟩,.int .i64 0,.int .i64 0,.slice none 0 0] 49 (0,0)):=by rw [← hW1];exact aG w _
 have lK:Rd d lv i b W1:=hR.below hb1;have hT1:=hT.mv (Mv.of_below hb1) (ae _);have c1:=nC d L lv i b W1 lK hT1;obtain ⟨fr,hfr⟩:∃ fr,bQ L i=fr:=⟨_,rfl⟩;rw [hfr] at c1;have AM:=hid hfr;have HW1:=hid hW1;have jC:=hid hq1;have HR1:=hid lK;have HT1:=hid hT1;have HT0:=hid hT;have HN:=hid hn;obtain ⟨Q,hQ⟩:∃ Q,Reads d lv O w=Q:=⟨_,rfl⟩;have HQ:=hid hQ;rw [hQ];clear hW1 hq1 hb1 lK hT1 hfr hn hQ hR hT
 go_enter Tryz.func109,Tryz.ntmps109
 go_wp2_with fail
 rw [HW1.out];refine c1.mono ?_;intro x w2 h2;obtain ⟨rfl,hw2⟩:=h2.went HR1.out;have kG:=hid hw2.2;have HR2:=hid hw2.1;clear c1 h2 hw2;obtain ⟨om,mH⟩:∃ u,start b i (bJ L kI i)=u:=⟨_,rfl⟩
 obtain ⟨m,hm⟩:∃ m,(b=false→n=m+1)∧(b=true→m=0):=by
  cases b
  ·exact ⟨n - 1,fun _=>by have:=HN.out rfl;omega,fun h=>by cases h⟩
  ·exact ⟨0,fun h=>by (cases h),fun _=>rfl⟩
 obtain ⟨oe,hoe⟩:∃ u,start om.az om.at (expr L m 0 om.at)=u:=⟨_,rfl⟩;obtain ⟨ob,fu⟩:∃ u,start oe.az oe.at (block L m oe.at)=u:=⟨_,rfl⟩;have sP:Hid (pI L i b (start b i (Out.ok () i:Out Unit))):=hid (.begun hi ⟨ae _,hi⟩);have qx:Hid (pI L i b om):=hid (by rw [← mH];exact .begun hi (bU _ hi).toFw);have xC:Hid (pI L i b oe):=hid (by rw [← hoe];exact qx.out.step ((iH m).expr _ qx.out.le 0).toFw);have Eg:Hid (pI L i b ob):=hid (by rw [← fu];exact xC.out.step ((nG L m).block _ xC.out.le).toFw)
 have PW:Hid (om.az=false→om.at=i+1∧b=false):=hid (by
  rw [← mH]
  cases b
  ·rw [aZ]
   unfold bJ
   cases bH L kI i
   ·intro h;cases h
   ·exact fun _=>⟨rfl,rfl⟩
  ·intro h;cases h)
 have acI:Hid (oe.az=false→om.az=false):=hid (fun h=>by rw [← hoe] at h;exact (jl h).1)
 have acJ:Hid (om.at≤oe.at):=hid (by
  rw [← hoe]
  cases om.az
  ·exact ((iH m).expr _ qx.out.le 0).ge
  ·exact ae _)
 have ZK:Hid (ob.az=false→oe.az=false∧oe.at≤ob.at):=hid (fun h=>by
  rw [← fu] at h ⊢;obtain ⟨h1,h2⟩:=jl h;rw [h2]
  exact ⟨h1,((nG L m).block _ xC.out.le).ge⟩)
 have nU:Hid (O=ob.next fun _ k=>if bH L mV k then if bH L kI (k+1) then (branch L m (k+1)).next fun o p=>part L kI [] fr [oe.pt,ob.pt,o] p else (block L m (k+1)).next fun o p=>part L kI [] fr [oe.pt,ob.pt,o] p else part L kI [] fr [oe.pt,ob.pt] k):=hid (by
  rw [← HO.out,← AM.out]
  cases b
  ·have hm1:=hm.1 rfl
   subst hm1;rw [aZ,BD];have mH:bJ L kI i=om:=mH;rw [mH]
   cases om with
   | bad j=>subst hoe;subst fu;rfl
   | ok u j =>
    have hoe:expr L m 0 j=oe:=hoe
    show ((expr L m 0 j).next _)=_
    rw [hoe]
    cases oe with
    | bad j=>subst fu;rfl
    | ok e k =>
     have fu:block L m k=ob:=fu
     show ((block L m k).next _)=_
     rw [fu]
     cases ob <;> rfl
  ·subst mH;subst hoe;subst fu;rfl)
 obtain ⟨oL,ZL⟩:∃ u,(ob.next fun _ k=>Out.ok [oe.pt,ob.pt] k:Out (List Pt))=u:=⟨_,rfl⟩
 have ZB:∀ l j,oL=.ok l j→(∃ y0 j0,oe=.ok y0 j0)∧(∃ y1 j1,ob=.ok y1 j1)∧l=[oe.pt,ob.pt]:=fun l j hl=>by
  rw [← ZL] at hl
  cases hb:ob.az
  ·have h1:=jF hb
   have h2:=jF (ZK.out hb).1;refine ⟨⟨_,_,h2⟩,⟨_,_,h1⟩,?_⟩;rw [h1] at hl;simp only [Out.next,Out.ok.injEq] at hl;rw [← hl.1];rfl
  ·cases ob with
   | ok a j=>cases hb
   | bad j=>cases hl
 have agm:Hid (∀ l j,oL=.ok l j→∃ x:(∃ y0 j0,oe=.ok y0 j0)∧(∃ y1 j1,ob=.ok y1 j1),l=[oe.pt,ob.pt]):=hid (fun l j hl=>by obtain ⟨h1,h2,h3⟩:=ZB l j hl;exact ⟨⟨h1,h2⟩,h3⟩);obtain ⟨iP,hi0,hz0,hz1,hz2⟩:=nY AU;have Ih:=hid mH;have Zu:=hid hoe;have Xv:=hid fu;have HoL:=hid ZL;have Ui:=hid hm;have agn:=hid ZB;clear mH hoe fu ZL hm ZB agm;have c3:=jc d L lv i b kI w2 HR2.out (HT1.out.mv kG.out (ae _)) (by have:=sP.out.le;omega);rw [Ih.out,show aX kI=⟨#[105,102]⟩ from rfl] at c3
 go_wp2_with fail
 refine c3.mono ?_;rintro x w3 ⟨rfl,hw3⟩;have lh:=hid (kG.out.trans (hw3.2.mono kG.out.size));have HR3:=hid hw3.1
 skip
 clear c3 hw3;have c4:=uk d L lv hL m 0 om.at om.az w3 HR3.out (HT1.out.mv lh.out (ae _)) qx.out.le (fun h=>by obtain ⟨h1,h2⟩:=PW.out h;have h3:=HN.out h2;have h4:=Ui.out.1 h2;have h5:=qx.out.le;omega);rw [Zu.out] at c4
 go_wp2_with fail
 refine c4.mono ?_;rintro x w4 ⟨v,rfl,⟨jR,jS,jT,jU,jV,jW,jX,rfl,kT,nD⟩,hw4⟩;have rX:=hid nD;have xK:=hid kT;clear kT;have iX:=hid hw4;clear c4 nD hw4
 go_upto_region 4 with fail
 obtain ⟨oO,jf⟩:∃ q,w4.heap.size=q:=⟨_,rfl⟩;obtain ⟨V4,Wh⟩:∃ V,w4.alloc (.cells #[.string jR,.string jS,.int .i64 jT,.int .i64 jU,.slice jV jW jX] 49)=V:=⟨_,rfl⟩
 have hb4:Below w4.heap.size w4 V4:=by rw [← Wh];exact (ah _ w4).alloc (ae _) _
 have nE:Hid (V4.heap[oO]?=some (.cells #[.string jR,.string jS,.int .i64 jT,.int .i64 jU,.slice jV jW jX] 49 (0,0))):=hid (by rw [← Wh,← jf];exact aG w4 _);have lJ:Hid (Mv w4.heap.size d w4 V4):=hid (Mv.of_below hb4);have jI:Hid (W1.heap.size≤w3.heap.size∧w3.heap.size≤w4.heap.size∧oO=w4.heap.size):=hid ⟨lh.out.size,iX.out.2.size,jf.symm⟩;rw [Wh,jf];have mO:=hid ((lh.out.trans (iX.out.2.mono lh.out.size)).trans ((Mv.of_below hb4).mono (aJ lh.out.size iX.out.2.size)));have HR4:=hid (iX.out.1.below hb4)
 skip
 clear Wh hb4 jf;have yw:Hid (Mv V4.heap.size d V4 V4):=hid (Mv.refl _ _ _);have c5:=HIB.out m (by have h9:=Ui.out;cases b <;> simp at h9 <;> omega) oe.at oe.az V4 HR4.out (HT1.out.mv mO.out (ae _)) xC.out.le (fun h=>by obtain ⟨h1,h2⟩:=PW.out (acI.out h);have h3:=HN.out h2;have h4:=Ui.out.1 h2;have h5:=xC.out.le;have h6:=acJ.out;omega);rw [Xv.out] at c5
 go_wp2_with fail
 refine c5.mono ?_;rintro x w5 ⟨v,rfl,⟨F5,F6,F7,F8,F9,Ga,Gb,rfl,BA,Kn⟩,jr⟩;have TF:=hid Kn;have Xu:=hid BA;clear BA;have uj:=hid jr;clear c5 Kn jr
 go_upto_region 5 with fail
 obtain ⟨TG,zL⟩:∃ q,w5.heap.size=q:=⟨_,rfl⟩;obtain ⟨V5,Qh⟩:∃ V,w5.alloc (.cells #[.string F5,.string F6,.int .i64 F7,.int .i64 F8,.slice F9 Ga Gb] 49)=V:=⟨_,rfl⟩
 have hb5:Below w5.heap.size w5 V5:=by rw [← Qh];exact (ah _ w5).alloc (ae _) _
 have Kq:Hid (V5.heap[TG]?=some (.cells #[.string F5,.string F6,.int .i64 F7,.int .i64 F8,.slice F9 Ga Gb] 49 (0,0))):=hid (by rw [← Qh,← zL];exact aG w5 _);have Kr:Hid (Mv w5.heap.size d w5 V5):=hid (Mv.of_below hb5);have Ed:Hid (W1.heap.size≤V4.heap.size∧V4.heap.size≤w5.heap.size∧TG=w5.heap.size):=hid ⟨mO.out.size,uj.out.2.size,zL.symm⟩;rw [Qh,zL];have mU:=hid ((mO.out.trans (uj.out.2.mono mO.out.size)).trans ((Mv.of_below hb5).mono (aJ mO.out.size uj.out.2.size)));have vD:=hid (uj.out.1.below hb5);have yz:=hid (yw.out.trans ((uj.out.2.trans ((Mv.of_below hb5).mono uj.out.2.size)).mono yw.out.size));clear Qh hb5 zL;have TV:Hid (Mv V5.heap.size d V5 V5):=hid (Mv.refl _ _ _)
 have HPP:∀ l j,oL=.ok l j→∃ y0 y1,(∃ j0,oe=.ok y0 j0)∧(∃ j1,ob=.ok y1 j1)∧l=[y0,y1]:=fun l j hl=>by
  obtain ⟨⟨y0,j0,h0⟩,⟨y1,j1,h1⟩,h2⟩:=agn.out l j hl;refine ⟨y0,y1,⟨j0,h0⟩,⟨j1,h1⟩,?_⟩;rw [h2,h0,h1];rfl
 have HPQ:∀ l j,oL=.ok l j→∃ q:(Pt × Nat) × (Pt × Nat),(oe=.ok q.1.1 q.1.2∧ob=.ok q.2.1 q.2.2)∧l=[q.1.1,q.2.1]:=fun l j hl=>by
  obtain ⟨y0,y1,⟨j0,h0⟩,⟨j1,h1⟩,h2⟩:=HPP l j hl
  exact ⟨((y0,j0),(y1,j1)),⟨h0,h1⟩,h2⟩
 have HPR:∀ l j,oL=.ok l j→∃ uQ AO KG TE,oe=.ok uQ AO∧ob=.ok KG TE∧l=[uQ,KG]:=fun l j hl=>by
  obtain ⟨y0,y1,⟨j0,h0⟩,⟨j1,h1⟩,h2⟩:=HPP l j hl
  exact ⟨y0,j0,y1,j1,h0,h1,h2⟩
 have mf:=(yz.out.block oO (af.1 nE.out).1 (by have:=jI.out;have:=dN.out.size;omega)).trans nE.out;obtain ⟨⟨wK,wL,wM,wN,wQ⟩,-⟩:=aF mf;clear mf;have EL:=(TV.out.block TG (af.1 Kq.out).1 (by have:=Ed.out;have:=dN.out.size;omega)).trans Kq.out;obtain ⟨⟨TH,TI,TJ,TK,TM⟩,-⟩:=aF EL;clear EL;obtain ⟨z,hz⟩:∃ z,V5.heap.size=z:=⟨_,rfl⟩;obtain ⟨Z,hZ⟩:∃ Z,V5.alloc (.cells #[.string jR,.string jS,.int .i64 jT,.int .i64 jU,.slice jV jW jX,.string F5,.string F6,.int .i64 F7,.int .i64 F8,.slice F9 Ga Gb] 49)=Z:=⟨_,rfl⟩
 have hzb:Below V5.heap.size V5 Z:=by rw [← hZ];exact (ah _ V5).alloc (ae _) _
 have ZM:dX W1.heap.size oL (.slice (some ⟨V5.heap.size,0,none⟩) 2 2) 2 [.string jR,.string jS,.int .i64 jT,.int .i64 jU,.slice jV jW jX,.string F5,.string F6,.int .i64 F7,.int .i64 F8,.slice F9 Ga Gb] Z:=dX.made hZ mU.out.size rfl (by decide) PS (fun l j hl=>by
  obtain ⟨uQ,AO,KG,TE,hx0,hx1,rfl⟩:=HPR l j hl;refine ⟨rfl,?_⟩;obtain ⟨Mj,yx⟩:=rX.out uQ AO hx0;have Kj:Mv w4.heap.size d w4 V5:=lJ.out.trans (yz.out.mono lJ.out.size);have Mk:=(aU.live _ _ yx).later (W':=V5) (R':=fun g=>W1.heap.size≤g∧g<V5.heap.size) (Kj.still (ae _) (fun g hg=>by have:=jI.out;have:=dN.out.size;omega)) (fun g hg=>by have:=jI.out;have:=Kj.size;omega);obtain ⟨ux1,TN⟩:=TF.out KG TE hx1;have sx1:Mv w5.heap.size d w5 V5:=Kr.out.trans (TV.out.mono Kr.out.size);have ix1:=(aU.live _ _ TN).later (W':=V5) (R':=fun g=>W1.heap.size≤g∧g<V5.heap.size) (sx1.still (ae _) (fun g hg=>by have:=Ed.out;have:=dN.out.size;omega)) (fun g hg=>by have:=Ed.out;have:=sx1.size;omega)
  show aP V5 _ _ (([.string jR,.string jS,.int .i64 jT,.int .i64 jU,.slice jV jW jX]:List Value)++([.string F5,.string F6,.int .i64 F7,.int .i64 F8,.slice F9 Ga Gb]:List Value)++[])
  rw [jE Mj,jE ux1];simp only [dA]
  exact ⟨_,_,rfl,Mk,⟨_,_,rfl,ix1,rfl⟩⟩)
 have qw:=hid (mU.out.trans ((Mv.of_below (d:=d) hzb).mono mU.out.size));have Bw:=hid (vD.out.below hzb);rw [hz] at ZM;have YV:=hid ZM
 go_upto_region 6 with fail
 try rw [hZ]
 try rw [hz]
 clear hzb ZM hZ hz wK wL wM wN wQ TH TI TJ TK TM;clear HPP HPQ HPR;have c8:=fB d L lv ob.at ob.az mV Z Bw.out (HT1.out.mv qw.out (ae _)) (by have:=Eg.out.le;omega);rw [show aX mV=⟨#[101,108,115,101]⟩ from rfl] at c8;obtain ⟨R1,lK⟩:∃ R,(!ob.az&&bH L mV ob.at)=R:=⟨_,rfl⟩;rw [lK] at c8;have HA:=hid lK;clear lK
 cases R1
 ·go_wp2_with fail
  refine c8.mono ?_;rintro x w8 ⟨rfl,hw8⟩;have hw8:kz d lv ob.at ob.az Z w8:=hw8;have lD:=hid (qw.out.trans (hw8.2.mono qw.out.size));have uq:=hid hw8.1;have IK:=hid (YV.out.mv hw8.2 (by have:=dN.out.size;omega))
  have xE:Hid (O=ob.next fun _ k=>part L kI [] fr [oe.pt,ob.pt] k):=hid (by
   rw [nU.out];have h:=HA.out
   cases ob with
   | bad j=>rfl
   | ok a j =>
    show (if bH L mV j=true then _ else _)=_
    rw [ai (by rw [show bH L mV j=false by simpa [Out.az,Out.at] using h];decide)]
    rfl)
  have HAT:Hid (O.at=ob.at∧O.az=ob.az):=hid (by rw [xE.out];cases ob <;> exact ⟨rfl,rfl⟩)
  have zN:Hid (∀ p j,O=.ok p j→∃ K T ks j',p=.mk K T fr (jZ L ob.at) ks∧aX K=⟨#[105,102]⟩∧aX T=⟨#[]⟩∧oL=.ok ks j'):=hid (by
   intro p j fK;rw [xE.out] at fK;rw [← HoL.out]
   cases ob with
   | bad j=>cases fK
   | ok a j2 =>
    simp only [Out.next,part,Out.ok.injEq] at fK
    exact ⟨_,_,_,j2,fK.1.symm,rfl,rfl,rfl⟩)
  clear c8 hw8;have cz:=eZ d L lv ob.at ob.az ⟨#[105,102]⟩ ⟨#[]⟩ fr (some ⟨z,0,none⟩) 2 2 w8 uq.out (HT1.out.mv lD.out (ae _)) Eg.out.le hL;obtain ⟨ez,jB⟩:∃ u,jZ L ob.at=u:=⟨_,rfl⟩;rw [jB] at cz;have sN:=hid jB;clear jB
  go_wp2_with fail
  refine cz.mono ?_;rintro x wq ⟨rfl,hwq⟩;have Ct:=hid (lD.out.trans (hwq.2.mono lD.out.size));have EM:=hid hwq;have oH:=(af.1 jC.out).1;have iZ:wq.heap[w.heap.size]?=_:=(Ct.out.block w.heap.size oH (by omega)).trans jC.out;obtain ⟨⟨r0,r1,r2,r3,r4⟩,gz⟩:=aF iZ;have g0:=gz 0;have g1:=gz 1;have g2:=gz 2;have g3:=gz 3;have g4:=gz 4;have pY:=hid iZ;clear cz hwq iZ gz
  go_wp2_with fail
  have hp:=dR (a':=.string ⟨#[105,102]⟩) (b':=.string ⟨#[]⟩) (c':=.int .i64 fr) (d':=.int .i64 ez) (e':=.slice (some ⟨z,0,none⟩) 2 2) pY.out;refine aA (v:=.agg #[.string ⟨#[105,102]⟩,.string ⟨#[]⟩,.int .i64 fr,.int .i64 ez,.slice (some ⟨z,0,none⟩) 2 2]) (aQ rfl _ _ w.heap.size 49 #[.string ⟨#[105,102]⟩,.string ⟨#[]⟩,.int .i64 fr,.int .i64 ez,.slice (some ⟨z,0,none⟩) 2 2] (0,0) _ (by rfl) hp Tryz.underlying49 rfl (by kernel_rfl)) rfl ?_;rw [← HQ.out];refine dM hd (dN.out.trans (Ct.out.mono dN.out.size)) EM.out.1 HAT.out.1 HAT.out.2 ?_ ⟨ae _,ae _⟩;refine nO (IK.out.mv EM.out.2 (by omega)) (fun g hg=>by omega) (by omega) (fun p j fK=>?_);rw [← sN.out]
  exact zN.out p j fK
 ·have hb:ob.az=false∧bH L mV ob.at=true:=by simpa using HA.out
  have ZF:=hid hb;have hlt:ob.at<L.length:=bR hb.2;obtain ⟨hg1,hg2⟩:=PW.out (acI.out (ZK.out hb.1).1);have hg3:=(ZK.out hb.1).2;have hg4:=acJ.out;have hg5:=HN.out hg2;have Px:=Ui.out.1 hg2;have fu:=jF hb.1;clear hb
  go_wp2_with fail
  refine c8.mono ?_;rintro x w8 ⟨rfl,hw8⟩;have hw8:kz d lv (ob.at+1) ob.az Z w8:=hw8;rw [ZF.out.1] at hw8;have lD:=hid (qw.out.trans (hw8.2.mono qw.out.size));have uq:=hid hw8.1;have IK:=hid (YV.out.mv hw8.2 (by have:=dN.out.size;omega));have c9:=iJ d L lv (ob.at+1) false kI w8 uq.out (HT1.out.mv lD.out (ae _));rw [show aX kI=⟨#[105,102]⟩ from rfl] at c9;obtain ⟨R2,hR2⟩:∃ R,bH L kI (ob.at+1)=R:=⟨_,rfl⟩;rw [show (!false&&bH L kI (ob.at+1))=R2 from hR2] at c9;have HA2:=hid hR2;clear c8 hw8 hR2
  cases R2
  focus
   obtain ⟨oo,Ej⟩:∃ u,block L m (ob.at+1)=u:=⟨_,rfl⟩
   have xE:Hid (O=oo.next fun o p=>part L kI [] fr [oe.pt,ob.pt,o] p):=hid (by
    rw [nU.out,← Ej];have h1:=ZF.out.2;have h2:=HA2.out;rw [fu]
    show (if bH L mV ob.at=true then _ else _)=_
    rw [au h1,ai (by rw [h2];decide)]
    rfl)
   have PY:Hid (oo.at≤L.length):=hid (by rw [← Ej];exact ((nG L m).block _ hlt).le);have Xw:=hid Ej;clear Ej
   go_wp2_with fail
   refine c9.mono ?_;intro x w4 h4;obtain ⟨rfl,hw4⟩:=h4.went uq.out;have pQ:=hid (lD.out.trans (hw4.2.mono lD.out.size));have BQ:=hid hw4.1;have BC:=hid (IK.out.mv hw4.2 (by have:=dN.out.size;omega));have Bz:=hid (HT1.out.mv pQ.out (ae _));clear c9 h4 hw4;have cb:=HIB.out m (.inl Px) (ob.at+1) false w4 BQ.out Bz.out hlt (fun _=>by omega)
  rotate_left
  focus
   obtain ⟨oo,Ej⟩:∃ u,branch L m (ob.at+1)=u:=⟨_,rfl⟩
   have xE:Hid (O=oo.next fun o p=>part L kI [] fr [oe.pt,ob.pt,o] p):=hid (by
    rw [nU.out,← Ej];have h1:=ZF.out.2;have h2:=HA2.out;rw [fu]
    show (if bH L mV ob.at=true then _ else _)=_
    rw [au h1,au h2]
    rfl)
   have PY:Hid (oo.at≤L.length):=hid (by rw [← Ej];exact ((nG L m).branch _ hlt).le);have Xw:=hid Ej;clear Ej
   go_wp2_with fail
   refine c9.mono ?_;intro x w4 h4;obtain ⟨rfl,hw4⟩:=h4.went uq.out;have pQ:=hid (lD.out.trans (hw4.2.mono lD.out.size));have BQ:=hid hw4.1;have BC:=hid (IK.out.mv hw4.2 (by have:=dN.out.size;omega));have Bz:=hid (HT1.out.mv pQ.out (ae _));clear c9 h4 hw4;have cb:=HI.out m Px (ob.at+1) false w4 BQ.out Bz.out hlt (fun _=>by omega)
  rotate_left
  all_goals
   rw [aZ,Xw.out] at cb
   go_wp2_with fail
   refine cb.mono ?_;rintro x v5 ⟨v,rfl,⟨kb,tb,fb,eb,ab,nb,kQ,rfl,hnb,hvb⟩,jr⟩;have Ef:dX W1.heap.size oL (.slice (some ⟨z,0,none⟩) 2 2) 2 [.string jR,.string jS,.int .i64 jT,.int .i64 jU,.slice jV jW jX,.string F5,.string F6,.int .i64 F7,.int .i64 F8,.slice F9 Ga Gb] (v5.alloc (.cells #[.string kb,.string tb,.int .i64 fb,.int .i64 eb,.slice ab nb kQ] 49)):=(BC.out.mv jr.2 (by have:=dN.out.size;omega)).mv (Mv.of_below (d:=d) ((ah _ v5).alloc (ae _) _)) (by have:=dN.out.size;omega);have hbx:Below v5.heap.size v5 (v5.alloc (.cells #[.string kb,.string tb,.int .i64 fb,.int .i64 eb,.slice ab nb kQ] 49)):=(ah _ v5).alloc (ae _) _
   have hsx:W1.heap.size≤(v5.alloc (.cells #[.string kb,.string tb,.int .i64 fb,.int .i64 eb,.slice ab nb kQ] 49)).heap.size:=by have:=jr.2.size;have:=pQ.out.size;have:=hbx.size;omega
   have Il:=hid hvb;have qE:=hid jr;have yE:=hid Ef;have xL:=hid hbx;clear cb hvb jr Ef hbx hnb
   go_wp2_with (at_builtin;refine dD _ rfl _ _ 47 rfl W1.heap.size 49 iP _ 5 72 Tryz.underlying47 hi0 hz0 hz1 hz2 rfl (by decide) _ 2 [.string jR,.string jS,.int .i64 jT,.int .i64 jU,.slice jV jW jX,.string F5,.string F6,.int .i64 F7,.int .i64 F8,.slice F9 Ga Gb] rfl yE.out.own ⟨v5.heap.size,0,none⟩ 1 1 [.string kb,.string tb,.int .i64 fb,.int .i64 eb,.slice ab nb kQ] rfl rfl (qz (aG v5 _)) qy (by unfold maxLen;omega) (by omega) hsx ?_)
   intro v' w7 bP aN _ mg
   have hrow:v'.ownBlock=(Value.slice (some ⟨z,0,none⟩) 2 2).ownBlock∨v'.ownBlock=some (v5.alloc (.cells #[.string kb,.string tb,.int .i64 fb,.int .i64 eb,.slice ab nb kQ] 49)).heap.size:=by simpa using mg
   clear mg
   have hown1:∀ k,(Value.slice (some ⟨z,0,none⟩) 2 2).ownBlock=some k→W1.heap.size≤k:=fun k hk=>(yE.out.own.lt k hk).1
   have hd1:d<W1.heap.size:=by have:=dN.out.size;omega
   have sH:Hid (Rd d lv oo.at oo.az w7):=hid (by
    have h:=qE.out.1.below xL.out
    exact (aN.block d h.lt (fun h'=>by have:=hown1 d h'.symm;omega)).trans h)
   have iK:Hid (Mv W1.heap.size d W1 w7):=hid (pQ.out.trans ((qE.out.2.mono pQ.out.size).trans (((Mv.of_below xL.out).mono (by have:=qE.out.2.size;have:=pQ.out.size;omega)).trans ⟨aN.os,aN.tape,aN.output,aN.size,fun k hk _=>aN.block k (by omega) (fun h'=>by have:=hown1 k h'.symm;omega)⟩)))
   have Ew:Hid (dX W1.heap.size (oo.next fun o p=>Out.ok [oe.pt,ob.pt,o] p) v' (2+1) ([.string jR,.string jS,.int .i64 jT,.int .i64 jU,.slice jV jW jX,.string F5,.string F6,.int .i64 F7,.int .i64 F8,.slice F9 Ga Gb]++[.string kb,.string tb,.int .i64 fb,.int .i64 eb,.slice ab nb kQ]) w7):=hid (yE.out.snoc BC.out (ae _) pQ.out.size Il.out xL.out bP aN hrow (fun l j hl=>by
    cases oo with
    | bad k=>cases hl
    | ok o k =>
     cases hl
     exact ⟨[oe.pt,ob.pt],ob.at,o,_,by rw [← HoL.out,fu];rfl,rfl,rfl⟩))
   obtain ⟨la,lc,hv'⟩:=Ew.out.form;subst hv';clear bP aN hrow hown1 hd1 hsx;have HAT:Hid (O.at=oo.at∧O.az=oo.az):=hid (by rw [xE.out];cases oo <;> exact ⟨rfl,rfl⟩)
   have zN:Hid (∀ p j,O=.ok p j→∃ K T ks j',p=.mk K T fr (jZ L oo.at) ks∧aX K=⟨#[105,102]⟩∧aX T=⟨#[]⟩∧(oo.next fun o p=>Out.ok [oe.pt,ob.pt,o] p)=.ok ks j'):=hid (by
    intro p j fK;rw [xE.out] at fK
    cases oo with
    | bad j=>cases fK
    | ok a j2 =>
     simp only [Out.next,part,Out.ok.injEq] at fK
     exact ⟨_,_,_,j2,fK.1.symm,rfl,rfl,rfl⟩)
   have cz:=eZ d L lv oo.at oo.az ⟨#[105,102]⟩ ⟨#[]⟩ fr la (2+1) lc w7 sH.out (HT1.out.mv iK.out (ae _)) PY.out hL;obtain ⟨ez,jB⟩:∃ u,jZ L oo.at=u:=⟨_,rfl⟩;rw [jB] at cz;have sN:=hid jB;clear jB
   go_wp2_with fail
   refine cz.mono ?_;rintro x wq ⟨rfl,hwq⟩;have Ct:=hid (iK.out.trans (hwq.2.mono iK.out.size));have EM:=hid hwq;have oH:=(af.1 jC.out).1;have iZ:wq.heap[w.heap.size]?=_:=(Ct.out.block w.heap.size oH (by omega)).trans jC.out;obtain ⟨⟨r0,r1,r2,r3,r4⟩,gz⟩:=aF iZ;have g0:=gz 0;have g1:=gz 1;have g2:=gz 2;have g3:=gz 3;have g4:=gz 4;have pY:=hid iZ;clear cz hwq iZ gz
   go_wp2_with fail
   have hp:=dR (a':=.string ⟨#[105,102]⟩) (b':=.string ⟨#[]⟩) (c':=.int .i64 fr) (d':=.int .i64 ez) (e':=.slice la (2+1) lc) pY.out;refine aA (v:=.agg #[.string ⟨#[105,102]⟩,.string ⟨#[]⟩,.int .i64 fr,.int .i64 ez,.slice la (2+1) lc]) (aQ rfl _ _ w.heap.size 49 #[.string ⟨#[105,102]⟩,.string ⟨#[]⟩,.int .i64 fr,.int .i64 ez,.slice la (2+1) lc] (0,0) _ (by rfl) hp Tryz.underlying49 rfl (by kernel_rfl)) rfl ?_;rw [← HQ.out];refine dM hd (dN.out.trans (Ct.out.mono dN.out.size)) EM.out.1 HAT.out.1 HAT.out.2 ?_ ⟨ae _,ae _⟩;refine nO (Ew.out.mv EM.out.2 (by omega)) (fun g hg=>by omega) (by omega) (fun p j fK=>?_);rw [← sN.out]
   exact zN.out p j fK
end T
end Go.Proofs.YtojoahlpgmnbnaaGreatDoor
