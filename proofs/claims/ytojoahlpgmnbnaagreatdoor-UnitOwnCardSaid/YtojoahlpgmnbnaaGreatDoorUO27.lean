/- What the claim needs of the texts URDecls, URTo, ULDecls, ULFresh, ULOwn, ULOwn2. -/
import Derived.Test.YtojoahlpgmnbnaaGreatDoorUOOp
import Derived.Test.YtojoahlpgmnbnaaGreatDoorUO17
import Derived.Test.YtojoahlpgmnbnaaGreatDoorUO26
import Derived.Test.YtojoahlpgmnbnaaGreatDoorUO13
import Derived.Deep.DeepCutAuto
set_option maxRecDepth 20000
set_option maxHeartbeats 16000000
namespace Go.Proofs.YtojoahlpgmnbnaaGreatDoor
namespace Ud
open Go.RowKit
open Go.Lib hiding intOf
open U S Q T J
open K (dF wS)
theorem Xj:(Tryz.prog.info? 60).map (fun i=>(i.zero,i.size,i.bytes))=some (some (.agg #[.int .i64 0,.int .i64 0,.string ⟨#[]⟩,.string ⟨#[]⟩,.string ⟨#[]⟩,.int .i64 0,.int .i64 0,.slice none 0 0,.int .i64 0,.int .i64 0]),10,120):=by kernel_rfl
theorem F3:∀ (a b:List (ku × Value)),kD (a++b)=kD a++kD b
 | [],_=>rfl
 | d :: r,b=>by rw [bH,kD,kD,F3 r b,dC]
theorem wY (x:ku × Value):kD [x]=xh x.1 x.2:=by rw [kD,kD,eB]
structure RowK (B:Nat) (W:World) (v:Value) (n:Nat) (L:List (ku × Value)):Prop where
 len:L.length=n
 row:W.ownsRow B 60 10 v n (kD L)
 kids:∀ x∈L,aT W (fun k=>v.ownBlock≠some k∧k<W.heap.size) x.1.p x.2
theorem RowK.nil (B:Nat) (W:World):RowK B W (.slice none 0 0) 0 []:=⟨rfl,dD _ _ _ _,fun _ h=>absurd h (ek)⟩
theorem RowK.later {B:Nat} {W W':World} {v:Value} {n:Nat} {L:List (ku × Value)} (h:RowK B W v n L) (hb:Below W.heap.size W W'):RowK B W' v n L :=
 ⟨h.len,aV h.row hb,fun x hx=>aT.later (fun b hb' _=>hb.block b hb'.2) (fun k hk=>⟨hk.1,aD hk.2 hb.size⟩) _ _ (h.kids x hx)⟩
theorem RowK.add {B:Nat} {W W':World} {v:Value} {n g c:Nat} {L:List (ku × Value)} {d:ku} {lv:Value} (h:RowK B W v n L) (hk:aT W (fun k=>v.ownBlock≠some k∧k<W.heap.size) d.p lv)
  (bY:W'.ownsRow B 60 10 (.slice (some ⟨g,0,none⟩) (n+1) c) (n+1) (kD L++kD [(d,lv)])) (aP:W.grownBy W' v.ownBlock) (hat:v.ownBlock=some g∨g=W.heap.size):RowK B W' (.slice (some ⟨g,0,none⟩) (n+1) c) (n+1) (L++[(d,lv)]):=by
 have keep:∀ {p:Pt} {lv:Value},aT W (fun k=>v.ownBlock≠some k∧k<W.heap.size) p lv→aT W' (fun k=>(Value.slice (some ⟨g,0,none⟩) (n+1) c).ownBlock≠some k∧k<W'.heap.size) p lv:=fun hk =>
  aT.later (fun b hb _=>aP.block b hb.2 (fun e=>hb.1 e.symm)) (fun k hk=>⟨fun e=>by
   have e:g=k:=by simpa [Value.ownBlock] using e
   rcases hat with h1|h1
   ·exact hk.1 (by rw [h1,e])
   ·omega,aD hk.2 aP.size⟩) _ _ hk
 refine ⟨by rw [aM,h.len];rfl,by rw [F3];exact bY,fun x hx=>?_⟩
 rcases List.mem_append.1 hx with hx|hx
 ·exact keep (h.kids x hx)
 ·rw [List.mem_singleton] at hx
  subst hx
  exact keep hk
theorem RowK.VJ {B:Nat} {W:World} {v:Value} {n:Nat} {L:List (ku × Value)} (h:RowK B W v n L):jc B (fun _=>True) W (L.map (·.1)) v:=by
 obtain ⟨h1,h2,h3⟩:=h;obtain ⟨a,c,rfl⟩:=fD h2
 rcases eQ n with h0|h0
 ·have hL:L=[]:=dw.1 (h1.trans h0)
  subst hL;subst h0
  exact ⟨a,c,rfl,aL _,.inl rfl⟩
 ·obtain ⟨g,c2,e1,e2,e3,e4⟩:=lN h2 h0
  simp only [cZ] at e1;obtain ⟨rfl,_,rfl⟩:=e1;refine ⟨_,_,by rw [fB,h1],by rw [fB,h1];exact e2,.inr ⟨g,0,rfl,e3,e4,fun i hi=>?_⟩⟩;rw [fB] at hi;rw [List.getElem_map];refine ⟨L[i].2,fun q u hq=>?_,aT.later (fun _ _ _=>rfl) (fun _ _=>trivial) _ _ (h3 _ (bF hi))⟩;have tK:=(aN.1 hq).1;rw [gJ] at tK;rw [bz,h2.cellAt _ (by omega),DD L i q hi tK]
  exact hq
theorem Ik (s:ByteArray) (w:World) (hs:s.size≤600) :
  Calls Tryz.prog 13 #[.string s] w fun e w'=>∃ v,e=.returned v∧jc w.heap.size (fun _=>True) w' (decls s) v∧Below w.heap.size w w':=by
 obtain ⟨iE,hi0,hz0,hz1,hz2⟩:=fF Xj;have cP:=xw s w (by omega);obtain ⟨P,hP⟩:∃ P,pieces s.toList=P:=⟨_,rfl⟩;have hlen:=o6 s.toList;rw [dR] at hlen;have hF:=(uq s.toList).1;have hE:=(uq s.toList).2;rw [dR] at hE;rw [hP] at cP hlen hF hE
 have hdl:decls s=taken s P:=by unfold decls taken;rw [hP]
 have HF:=hid (fun p (h:p∈P)=>GQ hF p h);rw [hdl];have HE:=hid hE;clear hP hF hE hdl
 go_enter Tryz.func13,Tryz.ntmps13
 go_wp2_with fail
 refine cP.mono ?_;rintro e w1 ⟨v,rfl,hv,hb1⟩;obtain ⟨pa,pc,rfl,hcap,hrow⟩:=hv;have HR:=hid hrow;have HB1:=hid hb1;obtain ⟨n,hn⟩:∃ n,P.length=n:=⟨_,rfl⟩;have HN:=hid hn;rw [hn] at hlen hcap ⊢;clear cP hrow hb1 hn
 go_wp2_with fail
 go_loopw [4,5] (fun ov iv wr=>∃ (i m:Nat) (L:List (ku × Value)),iv=.int .i64 i∧i≤n∧m≤i∧Hid (L.map (·.1)=taken s (P.take i))∧Hid (RowK w1.heap.size wr ov m L)∧Hid (Below w1.heap.size w1 wr)) (fun _ iv _=>n - (Go.RowKit.intOf iv).toNat)
 case atStart=>exact ⟨0,0,[],rfl,aL _,ae _,hid rfl,hid (RowK.nil _ _),hid (aj _ _)⟩
 case round =>
  obtain ⟨i,m,L,rfl,hi,hm,HM,HO,HB⟩:=hrel
  by_cases hlt:i<n
  ·have hll:i<P.length:=by rw [HN.out];exact hlt
   obtain ⟨g,off,rfl,_,hg,hc⟩:=HR.out.resolve_left (fun h=>by rw [h] at hll;exact bq _ hll);obtain ⟨p0,p1,p2,p3⟩:=M9 i hc hll;have hfe:=HF.out _ (bF hll);have e0:=HE.out;obtain ⟨f,hf⟩:∃ x,P[i].f=x:=⟨_,rfl⟩;obtain ⟨e,he⟩:∃ x,P[i].e=x:=⟨_,rfl⟩;obtain ⟨d,hd⟩:∃ x,P[i].d=x:=⟨_,rfl⟩;rw [hf] at p0 hfe;rw [he] at p1 hfe;rw [hd] at p2;have q0:=(HB.out.cell (p:=⟨g,off+i*4,none⟩) hg).trans p0;have q1:=(HB.out.cell (p:=⟨g,off+i*4+1,none⟩) hg).trans p1;have q2:=(HB.out.cell (p:=⟨g,off+i*4+2,none⟩) hg).trans p2;have afh:f≤e:=hfe.2.1
   have hes:e≤s.size:=by rw [← e0];exact hfe.2.2
   obtain ⟨tx,htx⟩:∃ x,s.extract f e=x:=⟨_,rfl⟩;have HDC:Hid (LH s P[i]=OD f e tx):=hid (by unfold LH;rw [hf,he,htx]);have LK:=hid htx
   have agc:tx.size≤600:=by rw [← htx,ByteArray.size_extract];omega
   have HPQ:=hid (And.intro p0 p1);clear hc p0 p1 p2 p3 hfe e0 hf he htx
   cases d with
   | false =>
    have HT2:=hid (FC s hll hd);clear hd
    go_wp2_with fail
    go_roundw
    case rel=>exact ⟨i+1,m,L,by go_num,by omega,by omega,hid (by rw [HT2.out];exact HM.out),HO,HB⟩
    case measure=>simp [Go.RowKit.intOf];omega
   | true =>
    have HT2:=hid ((JR s hll hd).trans (by rw [HDC.out]));clear hd
    go_upto_region 7 with fail
    refine aS (S:=fun X=>X.cell? ⟨g,off+i*4,none⟩=some (.int .i64 f)∧X.cell? ⟨g,off+i*4+1,none⟩=some (.int .i64 e)) (by kernel_rfl) ⟨q0,q1⟩ fun ag=>?_
    have uo:=hid (HO.out.later (aj wr.heap.size wr).drew);have HB2:=hid (rq HB.out);obtain ⟨V,hV⟩:∃ V,wr.drew=V:=⟨_,rfl⟩;rw [hV] at ag uo HB2 ⊢;clear hV q0 q1 q2 HO HB;refine OP.m 0 rfl (.string s) ag ?_;simp only [OP.s];refine OP.m 1 rfl (.slice (some ⟨g,off,none⟩) n pc) ag ?_;simp only [OP.s];refine OP.m 2 rfl (.int .i64 i) ag ?_;simp only [OP.s];refine OP.t 3 rfl (.pointer (some ⟨g,off+i*4,none⟩)) (fun X hX=>tL 25 26 g off n i pc X rfl rfl rfl hlt) ag ?_;simp only [OP.s];refine OP.m 4 rfl (.pointer (some ⟨g,off+i*4,none⟩)) ag ?_;simp only [OP.s];refine OP.t 5 rfl (.int .i64 f) (fun X hX=>by obtain ⟨c0,c1⟩:=hX;go_simp) ag ?_;simp only [OP.s];refine OP.m 6 rfl (.slice (some ⟨g,off,none⟩) n pc) ag ?_;simp only [OP.s];refine OP.m 7 rfl (.int .i64 i) ag ?_;simp only [OP.s];refine OP.t 8 rfl (.pointer (some ⟨g,off+i*4,none⟩)) (fun X hX=>tL 30 31 g off n i pc X rfl rfl rfl hlt) ag ?_;simp only [OP.s];refine OP.m 9 rfl (.pointer (some ⟨g,off+i*4+1,none⟩)) ag ?_;simp only [OP.s];refine OP.t 10 rfl (.int .i64 e) (fun X hX=>by obtain ⟨c0,c1⟩:=hX;go_simp) ag ?_;simp only [OP.s];refine OP.t 11 rfl (.string tx) (fun X hX=>by have h:=LK.out;go_simp) ag ?_;simp only [OP.s];refine OP.m 12 rfl (.string tx) ag ?_;simp only [OP.s];refine bL (by kernel_rfl) ?_ _;clear ag;have cD:=T.Kg tx V agc
    go_wp2_with fail
    refine cD.mono ?_;rintro e' w3 ⟨p,x,r,lv,hp,rfl,hk,hb3,_⟩;have nM:=hid (uo.out.later hb3);have HB3:=hid (HB2.out.trans (hb3.mono HB2.out.size));have HKK:=hid (aT.later (W':=w3) (fun _ _ _=>rfl) (fun b hb=>(show (_:Value).ownBlock≠some b∧b<w3.heap.size from ⟨fun h=>by have h1:=(uo.out.row.lt b h).2;have h2:V.heap.size≤b:=hb.1;omega,hb.2⟩)) _ _ (zi _ _ hk))
    have agd:Hid (OD f e tx=⟨f,e,tx,p,x,r⟩):=hid (by
     have h2:declT tx=(p,x,r):=hp
     unfold OD
     rw [h2])
    obtain ⟨k,tt,pf,pe,ks⟩:=p;obtain ⟨a,c,rfl⟩:=eF hk;obtain ⟨kb,hkb⟩:∃ z,aU k=z:=⟨_,rfl⟩;obtain ⟨tb,htb⟩:∃ z,aU tt=z:=⟨_,rfl⟩;obtain ⟨z0,hz0'⟩:∃ z,ks.length=z:=⟨_,rfl⟩
    have G7:xh ⟨f,e,tx,.mk k tt pf pe ks,x,r⟩ (.slice a ks.length c)=[.int .i64 f,.int .i64 e,.string tx,.string kb,.string tb,.int .i64 pf,.int .i64 pe,.slice a z0 c,.int .i64 x,.int .i64 r]:=by
     rw [← hkb,← htb,← hz0'];rfl
    have LB:=hid G7;simp only [arg,five];rw [hkb,htb,hz0'];obtain ⟨w4,hw4,hq4,hb4,Ef⟩:=ic w3 (.cells #[.string kb,.string tb,.int .i64 pf,.int .i64 pe,.slice a z0 c] 49);have xn:=hid (nM.out.later hb4);have uR:=hid (HB3.out.trans (hb4.mono HB3.out.size));have acH:=hid (aT.later (W':=w4) (R':=fun b=>Value.ownBlock _≠some b∧b<w4.heap.size) (fun b hb _=>hb4.block b hb.2) (fun b hb=>⟨hb.1,aD hb.2 hb4.size⟩) _ _ HKK.out);have JA:=hid hq4;have q0:=(uR.out.cell (p:=⟨g,off+i*4,none⟩) hg).trans HPQ.out.1;have q1:=(uR.out.cell (p:=⟨g,off+i*4+1,none⟩) hg).trans HPQ.out.2;obtain ⟨oa,oc,rfl⟩:=fD xn.out.row;clear cD hk hb3 hb4 hq4 hp hkb htb hz0' G7 uo HB2 nM HKK
    go_upto_region 9 with fail
    try rw [hw4]
    refine aS (S:=fun X=>X.cell? ⟨g,off+i*4,none⟩=some (.int .i64 f)∧X.cell? ⟨g,off+i*4+1,none⟩=some (.int .i64 e)∧X.heap[w3.heap.size]?=some (.cells #[.string kb,.string tb,.int .i64 pf,.int .i64 pe,.slice a z0 c] 49 (0,0))∧Below w1.heap.size w1 X) (by kernel_rfl) ⟨q0,q1,JA.out,rq uR.out⟩ fun ag=>?_
    have ZZ:=hid (xn.out.later (aj w4.heap.size w4).drew);have acI:=hid (aT.later (W:=w4) (W':=w4.drew) (R':=fun b=>(Value.slice oa m oc).ownBlock≠some b∧b<w4.drew.heap.size) (fun _ _ _=>rfl) (fun _ h=>h) _ _ acH.out);have HZ5:=hid (show w3.heap.size<w4.drew.heap.size from Ef);have HGW:=hid (show g<w4.drew.heap.size from aD hg uR.out.size);obtain ⟨V5,PZ⟩:∃ V,w4.drew=V:=⟨_,rfl⟩;rw [PZ] at ag ZZ acI HZ5 HGW ⊢;clear PZ q0 q1 xn uR acH JA Ef hw4;have HV:=hid ag;refine OP.m 0 rfl (.slice oa m oc) ag ?_;simp only [OP.s];refine OP.m 1 rfl (.slice (some ⟨g,off,none⟩) n pc) ag ?_;simp only [OP.s];refine OP.m 2 rfl (.int .i64 i) ag ?_;simp only [OP.s];refine OP.t 3 rfl (.pointer (some ⟨g,off+i*4,none⟩)) (fun X hX=>tL 43 44 g off n i pc X rfl rfl rfl hlt) ag ?_;simp only [OP.s];refine OP.m 4 rfl (.pointer (some ⟨g,off+i*4,none⟩)) ag ?_;simp only [OP.s];refine OP.t 5 rfl (.int .i64 f) (fun X hX=>by obtain ⟨c0,c1,c2,_⟩:=hX;go_simp) ag ?_;simp only [OP.s];refine OP.m 6 rfl (.slice (some ⟨g,off,none⟩) n pc) ag ?_;simp only [OP.s];refine OP.m 7 rfl (.int .i64 i) ag ?_;simp only [OP.s];refine OP.t 8 rfl (.pointer (some ⟨g,off+i*4,none⟩)) (fun X hX=>tL 48 49 g off n i pc X rfl rfl rfl hlt) ag ?_;simp only [OP.s];refine OP.m 9 rfl (.pointer (some ⟨g,off+i*4+1,none⟩)) ag ?_;simp only [OP.s];refine OP.t 10 rfl (.int .i64 e) (fun X hX=>by obtain ⟨c0,c1,c2,_⟩:=hX;go_simp) ag ?_;simp only [OP.s];refine OP.m 11 rfl (.string tx) ag ?_;simp only [OP.s]
    refine OP.t 12 rfl (.agg #[.string kb,.string tb,.int .i64 pf,.int .i64 pe,.slice a z0 c]) (fun X hX=>by obtain ⟨_,_,c2,_⟩:=hX;obtain ⟨⟨k0,k1,k2,k3,k4⟩,_⟩:=cr c2;go_simp) ag ?_;simp only [OP.s];refine OP.m 13 rfl (.int .i64 x) ag ?_;simp only [OP.s];refine OP.m 14 rfl (.int .i64 r) ag ?_;simp only [OP.s];refine OP.t 15 rfl (.agg #[.int .i64 f,.int .i64 e,.string tx,.string kb,.string tb,.int .i64 pf,.int .i64 pe,.slice a z0 c,.int .i64 x,.int .i64 r]) (fun X hX=>by kernel_rfl) ag ?_;simp only [OP.s]
    refine OP.r 16 rfl fun K hK=>?_
    go_simp
    obtain ⟨X2,hX2,f2,b2,z2⟩:=ic V5 (.cells #[.int .i64 f,.int .i64 e,.string tx,.string kb,.string tb,.int .i64 pf,.int .i64 pe,.slice a z0 c,.int .i64 x,.int .i64 r] 60);rw [hX2];have hb2:=HV.out.2.2.2.trans (b2.mono HV.out.2.2.2.size);have hc0:=(b2.cell (p:=⟨g,off+i*4,none⟩) HGW.out).trans HV.out.1;have hc1:=(b2.cell (p:=⟨g,off+i*4+1,none⟩) HGW.out).trans HV.out.2.1;have hc2:=(b2.block _ HZ5.out).trans HV.out.2.2.1;have S7:=hid (ZZ.out.later b2);have ZF:=hid (aT.later (W':=X2) (R':=fun b=>(Value.slice oa m oc).ownBlock≠some b∧b<X2.heap.size) (fun b hb _=>b2.block b hb.2) (fun b hb=>⟨hb.1,aD hb.2 b2.size⟩) _ _ acI.out);have hgx:g<X2.heap.size:=aD HGW.out b2.size;have hzx:w3.heap.size<X2.heap.size:=aD HZ5.out b2.size;obtain ⟨g2,hg2⟩:∃ g,V5.heap.size=g:=⟨_,rfl⟩;rw [hg2] at f2 ⊢;clear hX2 b2 z2
    refine hK.out _ _ ⟨hc0,hc1,hc2,hb2⟩ fun ag=>?_
    try simp only [OP.s]
    clear hK K
    refine OP.r 17 rfl fun K hK=>?_
    refine eD _ (.tmp 42) (.tmp 58) 26 rfl w1.heap.size 60 iE (.agg #[.int .i64 0,.int .i64 0,.string ⟨#[]⟩,.string ⟨#[]⟩,.string ⟨#[]⟩,.int .i64 0,.int .i64 0,.slice none 0 0,.int .i64 0,.int .i64 0]) 10 120 Tryz.underlying26 hi0 hz0 hz1 hz2 rfl (by decide) (.slice oa m oc) m (kD L) rfl S7.out.row ⟨g2,0,none⟩ 1 1 (kD [(⟨f,e,tx,.mk k tt pf pe ks,x,r⟩,.slice a ks.length c)]) rfl (by rw [qL];rfl) (by
     rw [wY,LB.out]
     exact dm (cs:=#[.int .i64 f,.int .i64 e,.string tx,.string kb,.string tb,.int .i64 pf,.int .i64 pe,.slice a z0 c,.int .i64 x,.int .i64 r]) f2) (by rw [wY];exact B5 _ _ rfl) (by decide) (by unfold maxLen;omega) (by omega) hb2.size _ rfl ?_
    intro g4 c4 X3 w3' aP hat hlt3;have hb3:Below w1.heap.size w1 X3:=hb2.grown aP hb2.size (fun k hk=>(S7.out.row.lt k hk).1)
    have hne:some g≠(Value.slice oa m oc).ownBlock:=fun h=>by have:=(S7.out.row.lt g h.symm).1;omega
    have acK:some w3.heap.size≠(Value.slice oa m oc).ownBlock:=fun h=>by
     have h1:=dF S7.out.row (k:=w3.heap.size) h.symm;obtain ⟨cs,fr,h2⟩:=h1;rw [hc2] at h2
     cases h2
    have hd0:X3.cell? ⟨g,off+i*4,none⟩=some (.int .i64 f):=by unfold World.cell? at hc0 ⊢;rw [aP.block g hgx hne];exact hc0
    have hd1:X3.cell? ⟨g,off+i*4+1,none⟩=some (.int .i64 e):=by unfold World.cell? at hc1 ⊢;rw [aP.block g hgx hne];exact hc1
    have hd2:=(aP.block _ hzx acK).trans hc2;have HO7:=hid (S7.out.add (d:=⟨f,e,tx,.mk k tt pf pe ks,x,r⟩) (lv:=.slice a ks.length c) ZF.out w3' aP hat);have WS:=hid hb3
    refine hK.out _ _ ⟨hd0,hd1,hd2,hb3⟩ fun ag=>?_
    try simp only [OP.s]
    clear hK K;refine OP.m 18 rfl (.slice (some ⟨g4,0,none⟩) (m+1) c4) ag ?_;simp only [OP.s];refine bL (by kernel_rfl) ?_ _;clear ag w3' aP hat hlt3 hb3 hd0 hd1 hd2 hc0 hc1 hc2 hb2 f2 hne acK hgx hzx
    go_wp2_with fail
    go_roundw
    case rel=>exact ⟨i+1,m+1,_,by go_num,by omega,by omega,hid (by rw [HT2.out,List.map_append,HM.out,agd.out];rfl),HO7,WS⟩
    case measure=>simp [Go.RowKit.intOf];omega
  ·obtain rfl:i=n:=by omega
   go_wp2_with fail
   go_ret
   have hP:P.take i=P:=bX (by rw [HN.out];exact ae _);refine ⟨_,rfl,?_,HB1.out.trans (HB.out.mono HB1.out.size)⟩;have h:=HO.out.VJ;rw [HM.out,hP] at h
   exact h.weak HB1.out.size (fun _ h=>h)
end Ud
namespace Ud
open Go.RowKit
open Go.Lib hiding intOf
open U S Q T J
open K (dF)
theorem tX {o:Oper} {a:Act} (x y g off n i c:Nat) (W:World) (ho:o.op=.indexAddr 28 (.tmp x) (.tmp y)) (h1:a.eval (.tmp x)=.slice (some ⟨g,off,none⟩) n c) (h2:a.eval (.tmp y)=.int .i64 i) (hin:i<n):(execOp a.eval o).run Tryz.prog W=.ok (.value (.pointer (some ⟨g,off+i*10,none⟩))) W:=by
 have hm:(0:Int)≤(i:Int):=by omega
 have hm2:(i:Int)<(n:Int):=by omega
 have hr:(Instr.indexAt 28 (.slice (some ⟨g,off,none⟩) n c) (.int .i64 i)).run Tryz.prog W=.ok (.pointer (some ⟨g,off+i*10,none⟩)) W:=by
  simp [go_sem]
  intro h
  omega
 unfold execOp
 rw [ho];simp only [h1,h2,iV,hr,eP,iW]
theorem LV (D:List ku) (B:Nat) (R:Nat→Prop) (w:World) (v:Value) (hv:jc B R w D v) (hlen:D.length≤1000000) :
  Calls Tryz.prog 11 #[v] w fun e w'=>∃ v',e=.returned v'∧jc w.heap.size (fun _=>True) w' D v'∧Below w.heap.size w w':=by
 obtain ⟨iE,hi0,hz0,hz1,hz2⟩:=fF Xj;obtain ⟨sa,sc,rfl⟩:=lY hv;obtain ⟨_,_,hrow⟩:=uy hv;have HR:=hid hrow;obtain ⟨n,hn⟩:∃ n,D.length=n:=⟨_,rfl⟩;have HN:=hid hn;rw [hn] at hlen ⊢;clear hv hrow hn
 go_enter Tryz.func11,Tryz.ntmps11
 go_wp2_with fail
 go_loopw [3,4] (fun ov iv wr=>∃ (i:Nat) (L:List (ku × Value)),iv=.int .i64 i∧i≤n∧Hid (L.map (·.1)=D.take i)∧Hid (RowK w.heap.size wr ov i L)∧Hid (Below w.heap.size w wr)) (fun _ iv _=>n - (Go.RowKit.intOf iv).toNat)
 case atStart=>exact ⟨0,[],rfl,aL _,hid rfl,hid (RowK.nil _ _),hid (aj _ _)⟩
 case round =>
  obtain ⟨i,L,rfl,hi,HM,HO,HB⟩:=hrel;obtain ⟨oa,oc,rfl⟩:=fD HO.out.row
  by_cases hlt:i<n
  ·have hll:i<D.length:=by rw [HN.out];exact hlt
   obtain ⟨g,off,rfl,_,hg,hc⟩:=HR.out.resolve_left (fun h=>by rw [h] at hll;exact bq _ hll);obtain ⟨f,e,tx,k,tt,pf,pe,ks,a,c,x,r,hK⟩:=Ba (hc i hll);obtain ⟨kb,hkb⟩:∃ z,aU k=z:=⟨_,rfl⟩;obtain ⟨tb,htb⟩:∃ z,aU tt=z:=⟨_,rfl⟩;obtain ⟨z0,hz0'⟩:∃ z,ks.length=z:=⟨_,rfl⟩
   have LB:Hid (xh ⟨f,e,tx,.mk k tt pf pe ks,x,r⟩ (.slice a ks.length c)=[.int .i64 f,.int .i64 e,.string tx,.string kb,.string tb,.int .i64 pf,.int .i64 pe,.slice a z0 c,.int .i64 x,.int .i64 r]):=hid (by
    rw [← hkb,← htb,← hz0'];rfl)
   have dP:Hid (∀ X,Below w.heap.size w X→X.cell? ⟨g,off+i*10,none⟩=some (.int .i64 f)∧X.cell? ⟨g,off+i*10+1,none⟩=some (.int .i64 e)∧X.cell? ⟨g,off+i*10+2,none⟩=some (.string tx)∧X.cell? ⟨g,off+i*10+3,none⟩=some (.string kb)∧X.cell? ⟨g,off+i*10+3+1,none⟩=some (.string tb)∧X.cell? ⟨g,off+i*10+3+2,none⟩=some (.int .i64 pf)∧X.cell? ⟨g,off+i*10+3+3,none⟩=some (.int .i64 pe)∧X.cell? ⟨g,off+i*10+3+4,none⟩=some (.slice a z0 c)∧X.cell? ⟨g,off+i*10+8,none⟩=some (.int .i64 x)∧X.cell? ⟨g,off+i*10+9,none⟩=some (.int .i64 r)):=hid (fun X hX=>by
    have h:=hK.below hX;rw [← hkb,← htb,← hz0']
    exact ⟨h.c0,h.c1,h.c2,h.c3,h.c4,h.c5,h.c6,h.c7,h.c8,h.c9⟩)
   have HD:Hid (D.take (i+1)=D.take i++[⟨f,e,tx,.mk k tt pf pe ks,x,r⟩]):=hid (by rw [dE hll,hK.eq]);have HKK:Hid (∀ X,Below w.heap.size w X→aT X (fun b=>(Value.slice oa i oc).ownBlock≠some b∧b<X.heap.size) (.mk k tt pf pe ks) (.slice a ks.length c)):=hid (fun X hX=>aT.later (R:=fun b=>R b∧b<w.heap.size) (W:=w) (fun b hb _=>hX.block b hb.2) (fun b hb=>⟨fun h=>by have:=(HO.out.row.lt b h).1;omega,aD hb.2 hX.size⟩) _ _ (zi _ _ hK.kids));clear hc hK hkb htb hz0'
   go_upto_region 5 with fail
   refine aS (S:=fun X=>Below w.heap.size w X) (by kernel_rfl) (rq HB.out) fun ag=>?_
   have nM:=hid (HO.out.later (aj wr.heap.size wr).drew);obtain ⟨V,hV⟩:∃ V,wr.drew=V:=⟨_,rfl⟩;rw [hV] at ag nM ⊢;clear hV;have HV:=hid ag;refine OP.m 0 rfl (.slice oa i oc) ag ?_;simp only [OP.s];refine OP.m 1 rfl (.slice (some ⟨g,off,none⟩) n sc) ag ?_;simp only [OP.s];refine OP.m 2 rfl (.int .i64 i) ag ?_;simp only [OP.s];refine OP.t 3 rfl (.pointer (some ⟨g,off+i*10,none⟩)) (fun X hX=>tX 12 13 g off n i sc X rfl rfl rfl hlt) ag ?_;simp only [OP.s];refine OP.m 4 rfl (.pointer (some ⟨g,off+i*10,none⟩)) ag ?_;simp only [OP.s];refine OP.t 5 rfl (.int .i64 f) (fun X hX=>by obtain ⟨k0,k1,k2,k3,k4,k5,k6,k7,k8,k9⟩:=dP.out X hX;go_simp) ag ?_;simp only [OP.s];refine OP.m 6 rfl (.slice (some ⟨g,off,none⟩) n sc) ag ?_;simp only [OP.s];refine OP.m 7 rfl (.int .i64 i) ag ?_;simp only [OP.s];refine OP.t 8 rfl (.pointer (some ⟨g,off+i*10,none⟩)) (fun X hX=>tX 17 18 g off n i sc X rfl rfl rfl hlt) ag ?_;simp only [OP.s];refine OP.m 9 rfl (.pointer (some ⟨g,off+i*10+1,none⟩)) ag ?_;simp only [OP.s];refine OP.t 10 rfl (.int .i64 e) (fun X hX=>by obtain ⟨k0,k1,k2,k3,k4,k5,k6,k7,k8,k9⟩:=dP.out X hX;go_simp) ag ?_;simp only [OP.s];refine OP.m 11 rfl (.slice (some ⟨g,off,none⟩) n sc) ag ?_;simp only [OP.s];refine OP.m 12 rfl (.int .i64 i) ag ?_;simp only [OP.s];refine OP.t 13 rfl (.pointer (some ⟨g,off+i*10,none⟩)) (fun X hX=>tX 22 23 g off n i sc X rfl rfl rfl hlt) ag ?_;simp only [OP.s];refine OP.m 14 rfl (.pointer (some ⟨g,off+i*10+2,none⟩)) ag ?_;simp only [OP.s]
   refine OP.t 15 rfl (.string tx) (fun X hX=>by obtain ⟨k0,k1,k2,k3,k4,k5,k6,k7,k8,k9⟩:=dP.out X hX;go_simp) ag ?_;simp only [OP.s];refine OP.m 16 rfl (.slice (some ⟨g,off,none⟩) n sc) ag ?_;simp only [OP.s];refine OP.m 17 rfl (.int .i64 i) ag ?_;simp only [OP.s];refine OP.t 18 rfl (.pointer (some ⟨g,off+i*10,none⟩)) (fun X hX=>tX 27 28 g off n i sc X rfl rfl rfl hlt) ag ?_;simp only [OP.s];refine OP.m 19 rfl (.pointer (some ⟨g,off+i*10+3,none⟩)) ag ?_;simp only [OP.s];refine OP.t 20 rfl (.agg #[.string kb,.string tb,.int .i64 pf,.int .i64 pe,.slice a z0 c]) (fun X hX=>by obtain ⟨k0,k1,k2,k3,k4,k5,k6,k7,k8,k9⟩:=dP.out X hX;go_simp) ag ?_;simp only [OP.s];refine OP.m 21 rfl (.slice (some ⟨g,off,none⟩) n sc) ag ?_;simp only [OP.s];refine OP.m 22 rfl (.int .i64 i) ag ?_;simp only [OP.s];refine OP.t 23 rfl (.pointer (some ⟨g,off+i*10,none⟩)) (fun X hX=>tX 32 33 g off n i sc X rfl rfl rfl hlt) ag ?_;simp only [OP.s];refine OP.m 24 rfl (.pointer (some ⟨g,off+i*10+8,none⟩)) ag ?_;simp only [OP.s];refine OP.t 25 rfl (.int .i64 x) (fun X hX=>by obtain ⟨k0,k1,k2,k3,k4,k5,k6,k7,k8,k9⟩:=dP.out X hX;go_simp) ag ?_;simp only [OP.s];refine OP.m 26 rfl (.slice (some ⟨g,off,none⟩) n sc) ag ?_;simp only [OP.s];refine OP.m 27 rfl (.int .i64 i) ag ?_;simp only [OP.s];refine OP.t 28 rfl (.pointer (some ⟨g,off+i*10,none⟩)) (fun X hX=>tX 37 38 g off n i sc X rfl rfl rfl hlt) ag ?_;simp only [OP.s];refine OP.m 29 rfl (.pointer (some ⟨g,off+i*10+9,none⟩)) ag ?_;simp only [OP.s]
   refine OP.t 30 rfl (.int .i64 r) (fun X hX=>by obtain ⟨k0,k1,k2,k3,k4,k5,k6,k7,k8,k9⟩:=dP.out X hX;go_simp) ag ?_;simp only [OP.s];refine OP.t 31 rfl (.agg #[.int .i64 f,.int .i64 e,.string tx,.string kb,.string tb,.int .i64 pf,.int .i64 pe,.slice a z0 c,.int .i64 x,.int .i64 r]) (fun X hX=>by kernel_rfl) ag ?_;simp only [OP.s]
   refine OP.r 32 rfl fun K hK=>?_
   go_simp
   obtain ⟨X2,hX2,f2,b2,z2⟩:=ic V (.cells #[.int .i64 f,.int .i64 e,.string tx,.string kb,.string tb,.int .i64 pf,.int .i64 pe,.slice a z0 c,.int .i64 x,.int .i64 r] 60);rw [hX2];have hb2:=HV.out.trans (b2.mono HV.out.size);have S7:=hid (nM.out.later b2);have ZF:=hid (HKK.out X2 hb2);obtain ⟨g2,hg2⟩:∃ g,V.heap.size=g:=⟨_,rfl⟩;rw [hg2] at f2 ⊢;clear hX2 b2 z2
   refine hK.out _ _ hb2 fun ag=>?_
   try simp only [OP.s]
   clear hK K
   refine OP.r 33 rfl fun K hK=>?_
   refine eD _ (.tmp 11) (.tmp 43) 26 rfl w.heap.size 60 iE (.agg #[.int .i64 0,.int .i64 0,.string ⟨#[]⟩,.string ⟨#[]⟩,.string ⟨#[]⟩,.int .i64 0,.int .i64 0,.slice none 0 0,.int .i64 0,.int .i64 0]) 10 120 Tryz.underlying26 hi0 hz0 hz1 hz2 rfl (by decide) (.slice oa i oc) i (kD L) rfl S7.out.row ⟨g2,0,none⟩ 1 1 (kD [(⟨f,e,tx,.mk k tt pf pe ks,x,r⟩,.slice a ks.length c)]) rfl (by rw [qL];rfl) (by
    rw [wY,LB.out]
    exact dm (cs:=#[.int .i64 f,.int .i64 e,.string tx,.string kb,.string tb,.int .i64 pf,.int .i64 pe,.slice a z0 c,.int .i64 x,.int .i64 r]) f2) (by rw [wY];exact B5 _ _ rfl) (by decide) (by unfold maxLen;omega) (by omega) hb2.size _ rfl ?_
   intro g4 c4 X3 w3' aP hat hlt3;have hb3:Below w.heap.size w X3:=hb2.grown aP hb2.size (fun k hk=>(S7.out.row.lt k hk).1);have HO7:=hid (S7.out.add (d:=⟨f,e,tx,.mk k tt pf pe ks,x,r⟩) (lv:=.slice a ks.length c) ZF.out w3' aP hat);have WS:=hid hb3
   refine hK.out _ _ hb3 fun ag=>?_
   try simp only [OP.s]
   clear hK K;refine OP.m 34 rfl (.slice (some ⟨g4,0,none⟩) (i+1) c4) ag ?_;simp only [OP.s];refine bL (by kernel_rfl) ?_ _;clear ag w3' aP hat hlt3 hb3 hb2 f2
   go_wp2_with fail
   go_roundw
   case rel=>exact ⟨i+1,_,by go_num,by omega,hid (by rw [HD.out,List.map_append,HM.out];rfl),HO7,WS⟩
   case measure=>simp [Go.RowKit.intOf];omega
  ·obtain rfl:i=n:=by omega
   go_wp2_with fail
   go_ret
   have hP:D.take i=D:=bX (by rw [HN.out];exact ae _);refine ⟨_,rfl,?_,HB.out⟩;have h:=HO.out.VJ;rw [HM.out,hP] at h
   exact h
end Ud
namespace Ud
open Go.RowKit
open Go.Lib hiding intOf
open U S Q T J
open K (qd)
theorem Ns {D:List ku} (h:PY D):∀ d∈D,rT d.p≤1099511627776:=fun d hd=>aJ (zk h d hd).2 (by decide)
theorem PK (s:ByteArray) (w0:World) (hs:s.size≤600) :
  (∀ (w:World) (B d k:Nat),Un B w d s k→Calls Tryz.prog 12 #[oH d] w fun e w1=>∃ v,e=.returned v∧Below w.heap.size w w1 ∧
   Calls Tryz.prog 11 #[v] w1 fun e w2=>∃ v2,e=.returned v2∧Below w.heap.size w w2 ∧
    Calls Tryz.prog 13 #[.string s] w2 fun e w3=>∃ v3,e=.returned v3∧Below w.heap.size w w3 ∧
     Calls Tryz.prog 10 #[v2,v3] w3 fun e w4=>e=.returned (.bool true)∧Below w.heap.size w w4):=by
 have _h:=w0;intro w B d k hU
 have hlen:(decls s).length≤1000000:=by have:=nO s;omega
 refine (qU s w B d k hs hU).mono ?_;rintro e w1 ⟨v,rfl,hD,hb1⟩;refine ⟨v,rfl,hb1,(LV (decls s) _ _ w1 v hD.VJ hlen).mono ?_⟩;rintro e w2 ⟨v2,rfl,hD2,hb2⟩;have hB2:=hb1.trans (hb2.mono hb1.size);refine ⟨v2,rfl,hB2,(Ik s w2 hs).mono ?_⟩;rintro e w3 ⟨v3,rfl,hD3,hb3⟩;have hB3:=hB2.trans (hb3.mono hB2.size);refine ⟨v3,rfl,hB3,(Hd (decls s) _ _ _ _ w3 v2 v3 (hD2.later hb3) hD3 (Ns (pE s hs)) hlen).mono ?_⟩;rintro e w4 ⟨rfl,hb4⟩
 exact ⟨rfl,hB3.trans (hb4.mono hB3.size)⟩
theorem vV.later {H:Nat} {W W':World} {D:List ku} {v:Value} (h:vV H W D v) (hb:Below W.heap.size W W'):vV H W' D v:=by
 obtain ⟨a,c,L,h1,h2,h3,h4⟩:=h;refine ⟨a,c,L,h1,h2,h3,h4.imp id ?_⟩;rintro ⟨g,e1,e2⟩
 exact ⟨g,e1,e2.later hb⟩
theorem PL (s:ByteArray) (w:World) (B B' d d' k k':Nat) (hs:s.size≤600) (hU:Un B w d s k) (hU':Un B' w d' s k') :
  Calls Tryz.prog 12 #[oH d] w fun e w1=>∃ v,e=.returned v∧Below w.heap.size w w1 ∧
   Calls Tryz.prog 12 #[oH d'] w1 fun e w2=>∃ v2,e=.returned v2∧Below w.heap.size w w2 ∧
    Calls Tryz.prog 20 #[v,v2] w2 fun e w3=>e=.returned (.bool true)∧Below w.heap.size w w3:=by
 have hlen:(decls s).length≤1099511627776:=by have:=nO s;omega
 refine (qU s w B d k hs hU).mono ?_;rintro e w1 ⟨v,rfl,hD,hb1⟩;refine ⟨v,rfl,hb1,(qU s w1 B' d' k' hs (hU'.later hb1)).mono ?_⟩;rintro e w2 ⟨v2,rfl,hD2,hb2⟩;have hB2:=hb1.trans (hb2.mono hb1.size);refine ⟨v2,rfl,hB2,(za (decls s) _ _ _ _ w2 v v2 (hD.VJ.later hb2) hD2.VJ (Ns (pE s hs)) hlen).mono ?_⟩;rintro e w3 ⟨rfl,hb3⟩
 exact ⟨rfl,hB2.trans (hb3.mono hB2.size)⟩
def uS (W W':World):Prop:=∀ (b:Nat) (cs:Array Value) (t:TypeId),W.heap[b]?=some (.cells cs t (0,0))→∃ cs':Array Value,W'.heap[b]?=some (.cells cs' t (0,0))∧cs'.size=cs.size
theorem uS.refl (W:World):uS W W:=fun _ cs _ h=>⟨cs,h,rfl⟩
theorem uS.trans {W W' W'':World} (h:uS W W') (k:uS W' W''):uS W W'':=fun b cs t hb=>by
 obtain ⟨c1,h1,h2⟩:=h b cs t hb;obtain ⟨c2,h3,h4⟩:=k b c1 t h1
 exact ⟨c2,h3,h4.trans h2⟩
theorem uS.below {W W':World} (hb:Below W.heap.size W W'):uS W W':=fun b cs t h=>⟨cs,(hb.block _ (af.1 h).1).trans h,rfl⟩
theorem uS.one {W W':World} {g:Nat} {cs cs':Array Value} {t:TypeId} (h:W.heap[g]?=some (.cells cs t (0,0))) (h':W'.heap[g]?=some (.cells cs' t (0,0))) (hs:cs'.size=cs.size) (ho:∀ b,b≠g→W'.heap[b]?=W.heap[b]?):uS W W':=fun b cb tb hb=>by
 by_cases e:b=g
 ·subst e
  rw [h] at hb
  cases hb
  exact ⟨cs',h',hs⟩
 ·exact ⟨cb,(ho b e).trans hb,rfl⟩
structure Sh (H g c n:Nat) (W:World):Prop where
 ge:H≤g
 row:∃ cur:Array Value,W.heap[g]?=some (.cells cur 52 (0,0))∧cur.size=c*10∧n≤c ∧
  ∀ i,i<n→∃ a m cc,cur[i*10+7]?=some (.slice a m cc)∧m≤100000000∧(m=0∨∃ gk off,a=some ⟨gk,off,none⟩∧H≤gk∧gk≠g∧∃ ck:Array Value,W.heap[gk]?=some (.cells ck 49 (0,0))∧off+m*5≤ck.size)
theorem Sh.mod {H g c n:Nat} {W W':World} (h:Sh H g c n W) (hp:uS W W') (h7:∀ cur cur':Array Value,W.heap[g]?=some (.cells cur 52 (0,0))→W'.heap[g]?=some (.cells cur' 52 (0,0))→∀ i,i<n→cur'[i*10+7]?=cur[i*10+7]?):Sh H g c n W':=by
 obtain ⟨ge,cur,h1,h2,h3,h4⟩:=h;obtain ⟨cur',k1,k2⟩:=hp g cur _ h1;refine ⟨ge,cur',k1,k2.trans h2,h3,fun i hi=>?_⟩;obtain ⟨a,m,cc,e1,e2,e3⟩:=h4 i hi;refine ⟨a,m,cc,(h7 cur cur' h1 k1 i hi).trans e1,e2,e3.imp id ?_⟩;rintro ⟨gk,off,x1,x2,x3,ck,x4,x5⟩;obtain ⟨ck',y1,y2⟩:=hp gk ck _ x4
 exact ⟨gk,off,x1,x2,x3,ck',y1,by rw [y2];exact x5⟩
theorem Sh.below {H g c n:Nat} {W W':World} (h:Sh H g c n W) (hb:Below W.heap.size W W'):Sh H g c n W':=h.mod (.below hb) (fun cur cur' h1 h2 i _=>by
 have:=(hb.block _ (af.1 h1).1).trans h1;rw [h2] at this
 cases this
 rfl)
theorem Sh.of {H:Nat} {W:World} {D:List ku} {v:Value} (h:vV H W D v) (hw:∀ d∈D,rT d.p≤100000000) (hne:D≠[]):∃ g c,v=.slice (some ⟨g,0,none⟩) D.length c∧Sh H g c D.length W:=by
 obtain ⟨a,c,L,rfl,h2,h3,h4⟩:=h;obtain ⟨g,rfl,ge,cur,g1,g2,g3,g4,_⟩:=h4.resolve_left hne
 have Z4:L.length=D.length:=by rw [← h2,fB]
 refine ⟨g,c,rfl,ge,cur,g1,g2,h3,fun i hi=>?_⟩
 have SQ:i<L.length:=by omega
 obtain ⟨lv,x1,x2,x3⟩:=g4 i SQ hi
 have hmem:L[i].1∈D:=by rw [← h2];exact List.mem_map.2 ⟨_,bF SQ,rfl⟩
 have hwt:=hw _ hmem;generalize L[i]=y at x1 x2 x3 hwt;obtain ⟨⟨f,e,tx,⟨k,t,pf,pe,ks⟩,x,r⟩,lv0⟩:=y;have x2':=x2;obtain ⟨ka,kc,rfl,_,hk⟩:=x2'
 refine ⟨ka,ks.length,kc,x1 7 _ rfl,?_,?_⟩
 ·have:=kX ks
  have hw2:rT (.mk k t pf pe ks)≤100000000:=hwt;rw [rT] at hw2
  omega
 ·rcases eQ ks.length with h0|h0
  ·exact .inl h0
  ·right
   obtain ⟨gk,off,xs,rfl,hR,hc,hp⟩:=hk.resolve_left (fun e=>by rw [e] at h0;exact absurd h0 (by simp));obtain ⟨ck,hck⟩:=x3 ⟨gk,off,none⟩ ks.length kc rfl h0;refine ⟨gk,off,rfl,hR.1,hR.2,ck,hck,?_⟩;have hl:=aO.length hp;have hlast:xs[5*ks.length - 1]?=some (xs[5*ks.length - 1]'(by omega)):=aC (by omega);have h5:=hc _ _ hlast;rw [gF hck] at h5;have:=(af.1 h5).1
   omega
theorem Sh.text {H g c n i:Nat} {W:World} (h:Sh H g c n W) (hi:i<n) (v:Value):∃ W' u,W.setCell ⟨g,i*10+2,none⟩ v=W'∧W.cell? ⟨g,i*10+2,none⟩=some u∧W.frozen? ⟨g,i*10+2,none⟩=false∧Sh H g c n W'∧Below H W W'∧uS W W':=by
 have h':=h;obtain ⟨ge,cur,h1,h2,h3,h4⟩:=h;have hs:=az h1 (i:=i*10+2) v
 have ho:∀ k,k≠g→(W.setCell ⟨g,i*10+2,none⟩ v).heap[k]?=W.heap[k]?:=fun k hk=>ak _ _ _ _ hk
 have hP:uS W (W.setCell ⟨g,i*10+2,none⟩ v):=uS.one h1 hs (by simp) ho
 have hlt:i*10+2<cur.size:=by omega
 refine ⟨_,cur[i*10+2],rfl,by rw [gF h1];exact gG hlt,pg h1 _,h'.mod hP (fun c1 c2 e1 e2 j hj=>?_),⟨rfl,rfl,rfl,by simp,fun k hk=>ho k (by omega)⟩,hP⟩;rw [h1] at e1
 cases e1
 rw [hs] at e2
 cases e2
 rw [aR,ai (by omega)]
theorem Sh.kid {H g c n gk o:Nat} {W:World} (h:Sh H g c n W) (hg:H≤gk) (hne:gk≠g) {ck:Array Value} (hk:W.heap[gk]?=some (.cells ck 49 (0,0))) (ho5:o+5≤ck.size) (v0 v1 v2 v3 v4:Value) :
  ∃ W',((((W.setCell ⟨gk,o,none⟩ v0).setCell ⟨gk,o+1,none⟩ v1).setCell ⟨gk,o+2,none⟩ v2).setCell ⟨gk,o+3,none⟩ v3).setCell ⟨gk,o+4,none⟩ v4=W'∧Sh H g c n W'∧Below H W W'∧uS W W'∧W'.heap[g]?=W.heap[g]?:=by
 obtain ⟨W',cur',e1,e2,e3,e4,e5,e6,e7⟩:=wT (o:=o) v0 v1 v2 v3 v4 hk ho5;have hP:uS W W':=uS.one hk e2 e3 e6;refine ⟨W',e1,h.mod hP (fun c1 c2 x1 x2 j hj=>?_),e7 H hg,hP,e6 g (fun e=>hne e.symm)⟩;rw [e6 g (fun e=>hne e.symm),x1] at x2
 cases x2
 rfl
def ShJ (H g m:Nat) (W:World):Prop:=H≤g∧∃ cur:Array Value,W.heap[g]?=some (.cells cur 53 (0,0))∧m*2≤cur.size
theorem ShJ.mod {H g m:Nat} {W W':World} (h:ShJ H g m W) (hp:uS W W'):ShJ H g m W':=by
 obtain ⟨h0,cur,h1,h2⟩:=h;obtain ⟨cur',k1,k2⟩:=hp g cur _ h1
 exact ⟨h0,cur',k1,by rw [k2];exact h2⟩
theorem ShJ.of {H:Nat} {W:World} {l:List (Nat × Nat)} {v:Value} (h:xx H W l v) (hne:l≠[]):∃ g c,v=.slice (some ⟨g,0,none⟩) l.length c∧ShJ H g l.length W:=by
 unfold xx at h
 rcases h.2 with ⟨_,h0⟩|⟨g,cap,cur,rfl,h1,h2,h3,_,h5,_⟩
 ·exact absurd (dw.1 h0) hne
 ·exact ⟨g,cap,rfl,h1,cur,h2,by omega⟩
theorem ShJ.put {H g m i:Nat} {W:World} (h:ShJ H g m W) (hi:i<m) (v0 v1:Value):∃ W' u0 u1,(W.setCell ⟨g,i*2,none⟩ v0).setCell ⟨g,i*2+1,none⟩ v1=W'∧W.cell? ⟨g,i*2,none⟩=some u0∧W.cell? ⟨g,i*2+1,none⟩=some u1∧(∀ x,W.frozen? ⟨g,x,none⟩=false)∧ShJ H g m W'∧Below H W W':=by
 obtain ⟨h0,cur,h1,h2⟩:=h;have s0:=az h1 (i:=i*2) v0;have s1:=az s0 (i:=i*2+1) v1
 have b1:∀ (X:World) (j:Nat) (v:Value),Below H X (X.setCell ⟨g,j,none⟩ v):=fun X j v=>⟨rfl,rfl,rfl,by simp,fun k hk=>ak _ _ _ _ (by show k≠g;omega)⟩
 refine ⟨_,cur[i*2]'(by omega),cur[i*2+1]'(by omega),rfl,by rw [gF h1];exact gG (by omega),by rw [gF h1];exact gG (by omega),pg h1,⟨h0,_,s1,by simpa using h2⟩,(b1 _ _ _).trans (b1 _ _ _)⟩
theorem F4 (s:ByteArray) (hs:s.size≤600):(tH s).length≤1000000:=by
 have h1:(tH s).length≤(pieces s.toList).length:=by unfold tH;rw [fB];exact List.length_filter_le _ _
 have h2:=o6 s.toList;rw [dR] at h2
 omega
theorem PM:tH ⟨#[]⟩=[]:=by kernel_rfl
theorem Kh (s:ByteArray) (w:World) (hT:qI w) (hG:qd w):Calls Tryz.prog 6 #[.string s] w fun e w'=>e=.returned (.bool true)∧Below w.heap.size w w':=by
 have HT:=hid hT;have HG:=hid hG;obtain ⟨z,hz⟩:∃ z,s.size=z:=⟨_,rfl⟩
 by_cases hl:400<z
 ·have cA:=FJ w hT hG
  clear hT hG
  go_enter Tryz.func6,Tryz.ntmps6
  go_wp2_with fail
  refine cA.mono ?_;rintro e w1 ⟨rfl,hb1⟩;have HB:=hid hb1;clear cA hb1
  go_wp2_with fail
  go_ret
  exact ⟨rfl,HB.out⟩
 have hs6:s.size≤600:=by omega
 have HS:=hid hs6;have c1:=yY s w hs6 hT hG;obtain ⟨n,hn⟩:∃ n,(decls s).length=n:=⟨_,rfl⟩;obtain ⟨m,hm⟩:∃ n,(tH s).length=n:=⟨_,rfl⟩
 have hn6:n≤1000000:=by have:=nO s;omega
 have hm6:m≤1000000:=by rw [← hm];exact F4 s hs6
 have HN:=hid (And.intro hn hm);clear hT hG hs6 hn hm
 go_enter Tryz.func6,Tryz.ntmps6
 go_wp2_with fail
 refine c1.mono ?_;rintro e w1 ⟨d,rfl,YW,hb1⟩;have c2:=qU s w1 _ d 0 HS.out YW;have HU1:=hid YW;have HB1:=hid hb1
 unfold oH at c2
 unfold oH
 clear c1 YW hb1
 go_wp2_with fail
 refine c2.mono ?_;rintro e w2 ⟨v2,rfl,hD2,hb2⟩;have HU2:=hid (HU1.out.later hb2);have HB2:=hid (HB1.out.trans (hb2.mono HB1.out.size));have Kr:=hid hb2;have c3:=zn (oH d) s w2 ⟨_,rfl⟩ (by have:=HS.out;omega) (HT.out.later HB2.out) (zl s w2 _ d 0 HU2.out)
 have ZG:n=0∨∃ g c,v2=.slice (some ⟨g,0,none⟩) n c∧Sh w1.heap.size g c n w2:=by
  rcases eQ n with h0|h0
  ·exact .inl h0
  ·right
   obtain ⟨g,c,e1,e2⟩:=Sh.of hD2 (fun d hd=>(zk (pE s HS.out) d hd).2) (fun h=>by have:=HN.out.1;rw [h] at this;simp at this;omega);rw [HN.out.1] at e1 e2
   exact ⟨g,c,e1,e2⟩
 obtain ⟨a2,ca2,rfl⟩:=lY hD2.VJ;rw [HN.out.1] at ZG ⊢;have acL:=hid ZG
 unfold oH at c3
 clear c2 hD2 hb2 ZG
 go_wp2_with fail
 refine c3.mono ?_;rintro e w3 ⟨v3,rfl,hP3,hb3⟩
 have hj3:m=0∨∃ g c,v3=.slice (some ⟨g,0,none⟩) m c∧ShJ w1.heap.size g m w3:=by
  rcases eQ m with h0|h0
  ·exact .inl h0
  ·right
   obtain ⟨g,c,e1,e2⟩:=ShJ.of hP3 (fun h=>by have:=HN.out.2;rw [h] at this;simp at this;omega);rw [HN.out.2] at e1 e2
   exact ⟨g,c,e1,aJ Kr.out.size e2.1,e2.2⟩
 obtain ⟨a3,ca3,rfl,_⟩:=Ca hP3;rw [HN.out.2] at hj3 ⊢;have Ui:=hid (Kr.out.trans (hb3.mono Kr.out.size))
 have acM:Hid (n=0∨∃ g,a2=some ⟨g,0,none⟩∧Sh w1.heap.size g ca2 n w3):=hid (acL.out.imp id (by
  rintro ⟨g,c,e1,e2⟩;simp only [cZ] at e1;obtain ⟨rfl,_,rfl⟩:=e1
  exact ⟨g,rfl,e2.below hb3⟩))
 have ZH:Hid (m=0∨∃ g,a3=some ⟨g,0,none⟩∧ShJ w1.heap.size g m w3):=hid (hj3.imp id (by
  rintro ⟨g,c,e1,e2⟩;simp only [cZ] at e1;obtain ⟨rfl,_,rfl⟩:=e1
  exact ⟨g,rfl,e2⟩))
 clear c3 hP3 hb3 hj3 acL Kr HU2 HB2
 go_wp2_with fail
 go_loopw [6] (fun iv wr=>∃ i:Nat,iv=.int .i64 i∧i≤n∧Hid (Below w1.heap.size w1 wr)∧Hid (n=0∨∃ g,a2=some ⟨g,0,none⟩∧Sh w1.heap.size g ca2 n wr)∧Hid (m=0∨∃ g,a3=some ⟨g,0,none⟩∧ShJ w1.heap.size g m wr)) (fun iv _=>n - (Go.RowKit.intOf iv).toNat)
 case atStart=>exact ⟨0,rfl,aL _,Ui,acM,ZH⟩
 case round =>
  obtain ⟨i,rfl,hi,HK,Xk,HJ⟩:=hrel;clear Ui acM ZH
  by_cases hlt:i<n
  ·obtain ⟨g,rfl,hS⟩:=Xk.out.resolve_left (by omega)
   obtain ⟨W',u,wZ,hcell,hfr,hS',hB',hP'⟩:=hS.text hlt (.string ⟨#[120]⟩);have agj:=hS';obtain ⟨_,cur,h1,_,_,h4⟩:=agj;obtain ⟨ka,km,kc,e7,hkm,hrow⟩:=h4 i hlt;have SA:W'.cell? ⟨g,i*10+3+4,none⟩=some (.slice ka km kc):=(gF h1 _).trans e7;have ZY:=hid (HK.out.trans hB');have HSW:=hid hS';have HJW:Hid (m=0∨∃ g,a3=some ⟨g,0,none⟩∧ShJ w1.heap.size g m W'):=hid (HJ.out.imp id (fun ⟨g,x1,x2⟩=>⟨g,x1,x2.mod hP'⟩));clear hS hS' hB' hP' h1 h4 e7 hrow HK Xk HJ
   go_wp2_with fail
   go_loopw [7] (fun iv wr=>∃ k:Nat,iv=.int .i64 k∧k≤km∧Hid (wr.cell? ⟨g,i*10+3+4,none⟩=some (.slice ka km kc))∧Hid (Below w1.heap.size w1 wr)∧Hid (Sh w1.heap.size g ca2 n wr)∧Hid (m=0∨∃ g,a3=some ⟨g,0,none⟩∧ShJ w1.heap.size g m wr)) (fun iv _=>km - (Go.RowKit.intOf iv).toNat)
   case atStart=>exact ⟨0,rfl,aL _,hid SA,ZY,HSW,HJW⟩
   case round =>
    obtain ⟨k,rfl,hk,HC,HK,Xk,HJ⟩:=hrel;clear SA ZY HSW HJW wZ hcell hfr;have SA:=HC.out
    by_cases hkl:k<km
    ·have hS:=Xk.out
     obtain ⟨_,cur,h1,_,_,h4⟩:=hS;obtain ⟨ka',km',kc',e7,_,hrow⟩:=h4 i hlt;have e8:=(gF h1 (i*10+7)).trans e7;rw [show wr.cell? ⟨g,i*10+7,none⟩=some (.slice ka km kc) from SA] at e8;simp only [bW,cZ] at e8;obtain ⟨rfl,rfl,rfl⟩:=e8;obtain ⟨gk,off,rfl,hgk,hne,ck,hck,hsz⟩:=hrow.resolve_left (by omega);obtain ⟨W2,hW2,hS2,hB2,hP2,hg2⟩:=Xk.out.kid (o:=off+k*5) hgk hne hck (by omega) (.string ⟨#[120]⟩) (.string ⟨#[]⟩) (.int .i64 0) (.int .i64 0) (.slice none 0 0)
     have ex:∀ q,q<5→∃ u,wr.cell? ⟨gk,off+k*5+q,none⟩=some u:=fun q hq=>⟨ck[off+k*5+q]'(by omega),(gF hck _).trans (gG (by omega))⟩
     obtain ⟨u0,x0⟩:=ex 0 (by omega);obtain ⟨u1,x1⟩:=ex 1 (by omega);obtain ⟨u2,x2⟩:=ex 2 (by omega);obtain ⟨u3,x3⟩:=ex 3 (by omega);obtain ⟨u4,x4⟩:=ex 4 (by omega);rw [bS] at x0;have xf:=pg hck
     have hcn:W2.cell? ⟨g,i*10+3+4,none⟩=some (.slice (some ⟨gk,off,none⟩) km kc):=by
      have:=HC.out
      unfold World.cell? at this ⊢
      rw [hg2]
      exact this
     have Ul:=hid hcn;have Kr:=hid (HK.out.trans hB2);have HS2:=hid hS2;have HJ2:Hid (m=0∨∃ g,a3=some ⟨g,0,none⟩∧ShJ w1.heap.size g m W2):=hid (HJ.out.imp id (fun ⟨g,x1,x2⟩=>⟨g,x1,x2.mod hP2⟩));clear h1 h4 e7 hrow hck ex hS2 hB2 hP2 hg2 hcn HC HK Xk HJ hsz
     go_wp2_with fail
     go_roundw
     case rel=>exact ⟨k+1,by go_num,by omega,Ul,Kr,HS2,HJ2⟩
     case measure=>simp [Go.RowKit.intOf];omega
    ·obtain rfl:k=km:=by omega
     go_wp2_with fail
     go_roundw
     case rel=>exact ⟨i+1,by go_num,by omega,HK,hid (.inr ⟨g,rfl,Xk.out⟩),HJ⟩
     case measure=>simp [Go.RowKit.intOf];omega
  ·obtain rfl:i=n:=by omega
   clear Xk
   go_wp2_with fail
   go_loopw [8] (fun iv wr=>∃ k:Nat,iv=.int .i64 k∧k≤m∧Hid (Below w1.heap.size w1 wr)∧Hid (m=0∨∃ g,a3=some ⟨g,0,none⟩∧ShJ w1.heap.size g m wr)) (fun iv _=>m - (Go.RowKit.intOf iv).toNat)
   case atStart=>exact ⟨0,rfl,aL _,HK,HJ⟩
   case round =>
    obtain ⟨k,rfl,hk,HK,HJ⟩:=hrel
    by_cases hkl:k<m
    ·obtain ⟨g,rfl,hJ⟩:=HJ.out.resolve_left (by omega)
     obtain ⟨W2,u0,u1,hW2,x0,x1,xf,hJ2,hB2⟩:=hJ.put hkl (.int .i64 (-1)) (.int .i64 (-1));have Kr:=hid (HK.out.trans hB2);have HJ2:=hid hJ2;clear hJ hJ2 hB2 HK HJ
     go_wp2_with fail
     go_roundw
     case rel=>exact ⟨k+1,by go_num,by omega,Kr,hid (.inr ⟨g,rfl,HJ2.out⟩)⟩
     case measure=>simp [Go.RowKit.intOf];omega
    ·obtain rfl:k=m:=by omega
     have HB3:=hid (HB1.out.trans (HK.out.mono HB1.out.size));have HU3:=hid (HU1.out.later HK.out);have c4:=OZ s wr HS.out (HT.out.later HB3.out) (HG.out.later HB3.out)
     unfold oH at c4
     clear HK HJ
     go_wp2_with fail
     refine c4.mono ?_;rintro e w5 ⟨dn,rfl,hU5,hb5⟩;have HN5:=hid hU5;have HU5:=hid (HU3.out.later hb5);have sN:=hid (HB3.out.trans (hb5.mono HB3.out.size));have t1:=PK s w5 HS.out w5 _ d 0 HU5.out
     unfold oH at t1
     clear c4 hU5 hb5 HU3
     go_wp2_with fail
     refine t1.mono ?_;rintro e w6 ⟨v6,rfl,hb6,t2⟩;clear t1
     go_wp2_with fail
     refine t2.mono ?_;rintro e w7 ⟨v7,rfl,Eg,t3⟩;clear t2 hb6
     go_wp2_with fail
     refine t3.mono ?_;rintro e w8 ⟨v8,rfl,qJ,t4⟩;clear t3 Eg
     go_wp2_with fail
     refine t4.mono ?_;rintro e w9 ⟨rfl,nV⟩;have HN9:=hid (HN5.out.later nV);have HU9:=hid (HU5.out.later nV);have sP:=hid (sN.out.trans (nV.mono sN.out.size));have cA:=FJ w9 (HT.out.later sP.out) (HG.out.later sP.out);clear t4 qJ nV HN5 HU5
     go_wp2_with fail
     refine cA.mono ?_;rintro e wa ⟨rfl,wI⟩;have HNa:=hid (HN9.out.later wI);have HUa:=hid (HU9.out.later wI);have HBa:=hid (sP.out.trans (wI.mono sP.out.size));have cJ:=zn (oH d) s wa ⟨_,rfl⟩ (by have:=HS.out;omega) (HT.out.later HBa.out) (zl s wa _ d 0 HUa.out)
     unfold oH at cJ
     clear cA wI HN9 HU9
     go_wp2_with fail
     refine cJ.mono ?_;rintro e wb ⟨vb,rfl,hPb,hbb⟩;have HNb:=hid (HNa.out.later hbb);have HUb:=hid (HUa.out.later hbb);have HBb:=hid (HBa.out.trans (hbb.mono HBa.out.size));have HPb:=hid hPb;have cR:=JZ s wb (by have:=HS.out;omega);clear cJ hPb hbb HNa HUa
     go_wp2_with fail
     refine cR.mono ?_;rintro e wc ⟨vc,rfl,hPc,hbc⟩;have cP:=Pd (tH s) _ _ wc vb vc (HPb.out.later hbc) hPc (F4 s HS.out);have HNc:=hid (HNb.out.later hbc);have HUc:=hid (HUb.out.later hbc);have HBc:=hid (HBb.out.trans (hbc.mono HBb.out.size));clear cR hPc hbc HNb HUb HPb
     go_wp2_with fail
     refine cP.mono ?_;rintro e wd ⟨rfl,hbd⟩;have HNd:=hid (HNc.out.later hbd);have HUd:=hid (HUc.out.later hbd);have PR:=hid (HBc.out.trans (hbd.mono HBc.out.size));have d1:=PL s wd _ _ dn d _ _ HS.out HNd.out HUd.out
     unfold oH at d1
     clear cP hbd HNc HUc HUd
     go_wp2_with fail
     refine d1.mono ?_;rintro e we ⟨ve,rfl,hbe,d2⟩;clear d1
     go_wp2_with fail
     refine d2.mono ?_;rintro e wf ⟨vf,rfl,hbf,d3⟩;clear d2 hbe
     go_wp2_with fail
     refine d3.mono ?_;rintro e wg ⟨rfl,hbg⟩;have HNg:=hid (HNd.out.later hbg);have HBg:=hid (PR.out.trans (hbg.mono PR.out.size));have k1:=DF s wg _ dn 0 HNg.out
     unfold oH at k1
     have n1:=O6 wg;have n2:=JV wg;have n3:=SS wg;have n4:=zn (.pointer none) ⟨#[]⟩ wg ⟨_,rfl⟩ (by decide) (HT.out.later HBg.out) (JV wg);rw [PM] at n4;clear d3 hbf hbg HNd
     go_wp2_with fail
     refine k1.mono ?_;rintro e w' ⟨rfl,rfl⟩;clear k1
     go_wp2_with fail
     refine n1.mono ?_;rintro e w' ⟨rfl,rfl⟩;clear n1
     go_wp2_with fail
     refine n2.mono ?_;rintro e w' ⟨rfl,rfl⟩;clear n2
     go_wp2_with fail
     refine n3.mono ?_;rintro e w' ⟨rfl,rfl⟩;clear n3
     go_wp2_with fail
     refine n4.mono ?_;rintro e wh ⟨vh,rfl,hPh,hbh⟩;obtain ⟨ah,ch,rfl⟩:=fD hPh;have HBh:=hid (HBg.out.trans (hbh.mono HBg.out.size));simp only [dM];clear n4 hPh hbh
     go_wp2_with fail
     go_ret
     exact ⟨rfl,HBh.out⟩
end Ud
end Go.Proofs.YtojoahlpgmnbnaaGreatDoor
