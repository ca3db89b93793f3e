/- What the claim needs of the texts URDecls, URTo. -/
import Derived.Test.YtojoahlpgmnbnaaGreatDoorUWOp
import Derived.Test.YtojoahlpgmnbnaaGreatDoorUW17
import Derived.Test.YtojoahlpgmnbnaaGreatDoorUW26
set_option maxRecDepth 20000
set_option maxHeartbeats 16000000
namespace Go.Proofs.YtojoahlpgmnbnaaGreatDoor
namespace Ud
open Go.RowKit
open Go.Lib hiding intOf
open U S Q T J
open K (cZ xn)
theorem XA:(Tryz.prog.info? 60).map (fun i=>(i.zero,i.size,i.bytes))=some (some (.agg #[.int .i64 0,.int .i64 0,.string ⟨#[]⟩,.string ⟨#[]⟩,.string ⟨#[]⟩,.int .i64 0,.int .i64 0,.slice none 0 0,.int .i64 0,.int .i64 0]),10,120):=by kernel_rfl
theorem Gf:∀ (a b:List (kD × Value)),kE (a++b)=kE a++kE b
 | [],_=>rfl
 | d :: r,b=>by rw [bI,kE,kE,Gf r b,dA]
theorem xy (x:kD × Value):kE [x]=xB x.1 x.2:=by rw [kE,kE,eu]
structure RowK (B:Nat) (W:World) (v:Value) (n:Nat) (L:List (kD × Value)):Prop where
 len:L.length=n
 row:W.ownsRow B 60 10 v n (kE L)
 kids:∀ x∈L,aU W (fun k=>v.ownBlock≠some k∧k<W.heap.size) x.1.p x.2
theorem RowK.nil (B:Nat) (W:World):RowK B W (.slice none 0 0) 0 []:=⟨rfl,dB _ _ _ _,fun _ h=>absurd h (ed)⟩
theorem RowK.later {B:Nat} {W W':World} {v:Value} {n:Nat} {L:List (kD × Value)} (h:RowK B W v n L) (hb:Below W.heap.size W W'):RowK B W' v n L :=
 ⟨h.len,aR h.row hb,fun x hx=>aU.later (fun b hb' _=>hb.block b hb'.2) (fun k hk=>⟨hk.1,aC hk.2 hb.size⟩) _ _ (h.kids x hx)⟩
theorem RowK.add {B:Nat} {W W':World} {v:Value} {n g c:Nat} {L:List (kD × Value)} {d:kD} {lv:Value} (h:RowK B W v n L) (hk:aU W (fun k=>v.ownBlock≠some k∧k<W.heap.size) d.p lv)
  (bP:W'.ownsRow B 60 10 (.slice (some ⟨g,0,none⟩) (n+1) c) (n+1) (kE L++kE [(d,lv)])) (aN:W.grownBy W' v.ownBlock) (hat:v.ownBlock=some g∨g=W.heap.size):RowK B W' (.slice (some ⟨g,0,none⟩) (n+1) c) (n+1) (L++[(d,lv)]):=by
 have keep:∀ {p:Pt} {lv:Value},aU W (fun k=>v.ownBlock≠some k∧k<W.heap.size) p lv→aU W' (fun k=>(Value.slice (some ⟨g,0,none⟩) (n+1) c).ownBlock≠some k∧k<W'.heap.size) p lv:=fun hk =>
  aU.later (fun b hb _=>aN.block b hb.2 (fun e=>hb.1 e.symm)) (fun k hk=>⟨fun e=>by
   have e:g=k:=by simpa [Value.ownBlock] using e
   rcases hat with h1|h1
   ·exact hk.1 (by rw [h1,e])
   ·omega,aC hk.2 aN.size⟩) _ _ hk
 refine ⟨by rw [aO,h.len];rfl,by rw [Gf];exact bP,fun x hx=>?_⟩
 rcases List.mem_append.1 hx with hx|hx
 ·exact keep (h.kids x hx)
 ·rw [List.mem_singleton] at hx
  subst hx
  exact keep hk
theorem RowK.dcs {B:Nat} {W:World} {v:Value} {n:Nat} {L:List (kD × Value)} (h:RowK B W v n L):iY B (fun _=>True) W (L.map (·.1)) v:=by
 obtain ⟨h1,h2,h3⟩:=h;obtain ⟨a,c,rfl⟩:=eH h2
 rcases gW n with h0|h0
 ·have hL:L=[]:=dF.1 (h1.trans h0)
  subst hL;subst h0
  exact ⟨a,c,rfl,aM _,.inl rfl⟩
 ·obtain ⟨g,c2,e1,e2,e3,e4⟩:=lM h2 h0
  simp only [dh] at e1;obtain ⟨rfl,_,rfl⟩:=e1;refine ⟨_,_,by rw [fM,h1],by rw [fM,h1];exact e2,.inr ⟨g,0,rfl,e3,e4,fun i hi=>?_⟩⟩;rw [fM] at hi;rw [List.getElem_map];refine ⟨L[i].2,fun q u hq=>?_,aU.later (fun _ _ _=>rfl) (fun _ _=>trivial) _ _ (h3 _ (bG hi))⟩;have tY:=(aL.1 hq).1;rw [gF] at tY;rw [bA,h2.cellAt _ (by omega),DX L i q hi tY]
  exact hq
theorem uW (s:ByteArray) (w:World) (hs:s.size≤600) :
  Calls Tryz.prog 13 #[.string s] w fun e w'=>∃ v,e=.returned v∧iY w.heap.size (fun _=>True) w' (decls s) v∧Below w.heap.size w w':=by
 obtain ⟨iE,hi0,hz0,hz1,hz2⟩:=eB XA;have cP:=xH s w (by omega);obtain ⟨P,hP⟩:∃ P,pieces s.toList=P:=⟨_,rfl⟩;have hlen:=pJ s.toList;rw [dP] at hlen;have hF:=(uH s.toList).1;have hE:=(uH s.toList).2;rw [dP] at hE;rw [hP] at cP hlen hF hE
 have hdl:decls s=taken s P:=by unfold decls taken;rw [hP]
 have HF:=hid (fun p (h:p∈P)=>G8 hF p h);rw [hdl];have HE:=hid hE;clear hP hF hE hdl
 go_enter Tryz.func13,Tryz.ntmps13
 go_wp2_with fail
 refine cP.mono ?_;rintro e w1 ⟨v,rfl,hv,hb1⟩;obtain ⟨pa,pc,rfl,hcap,hrow⟩:=hv;have HR:=hid hrow;have HB1:=hid hb1;obtain ⟨n,hn⟩:∃ n,P.length=n:=⟨_,rfl⟩;have HN:=hid hn;rw [hn] at hlen hcap ⊢;clear cP hrow hb1 hn
 go_wp2_with fail
 go_loopw [4,5] (fun ov iv wr=>∃ (i m:Nat) (L:List (kD × Value)),iv=.int .i64 i∧i≤n∧m≤i∧Hid (L.map (·.1)=taken s (P.take i))∧Hid (RowK w1.heap.size wr ov m L)∧Hid (Below w1.heap.size w1 wr)) (fun _ iv _=>n - (Go.RowKit.intOf iv).toNat)
 case atStart=>exact ⟨0,0,[],rfl,aM _,ae _,hid rfl,hid (RowK.nil _ _),hid (ah _ _)⟩
 case round =>
  obtain ⟨i,m,L,rfl,hi,hm,HM,HO,HB⟩:=hrel
  by_cases hlt:i<n
  ·have hll:i<P.length:=by rw [HN.out];exact hlt
   obtain ⟨g,off,rfl,_,hg,hc⟩:=HR.out.resolve_left (fun h=>by rw [h] at hll;exact aS _ hll);obtain ⟨p0,p1,p2,p3⟩:=NA i hc hll;have hfe:=HF.out _ (bG hll);have e0:=HE.out;obtain ⟨f,hf⟩:∃ x,P[i].f=x:=⟨_,rfl⟩;obtain ⟨e,he⟩:∃ x,P[i].e=x:=⟨_,rfl⟩;obtain ⟨d,hd⟩:∃ x,P[i].d=x:=⟨_,rfl⟩;rw [hf] at p0 hfe;rw [he] at p1 hfe;rw [hd] at p2;have q0:=(HB.out.cell (p:=⟨g,off+i*4,none⟩) hg).trans p0;have q1:=(HB.out.cell (p:=⟨g,off+i*4+1,none⟩) hg).trans p1;have q2:=(HB.out.cell (p:=⟨g,off+i*4+2,none⟩) hg).trans p2;have afF:f≤e:=hfe.2.1
   have hes:e≤s.size:=by rw [← e0];exact hfe.2.2
   obtain ⟨tx,htx⟩:∃ x,s.extract f e=x:=⟨_,rfl⟩;have HDC:Hid (L9 s P[i]=Pb f e tx):=hid (by unfold L9;rw [hf,he,htx]);have Mb:=hid htx
   have agD:tx.size≤600:=by rw [← htx,ByteArray.size_extract];omega
   have HPQ:=hid (And.intro p0 p1);clear hc p0 p1 p2 p3 hfe e0 hf he htx
   cases d with
   | false =>
    have HT2:=hid (FP s hll hd);clear hd
    go_wp2_with fail
    go_roundw
    case rel=>exact ⟨i+1,m,L,by go_num,by omega,by omega,hid (by rw [HT2.out];exact HM.out),HO,HB⟩
    case measure=>simp [Go.RowKit.intOf];omega
   | true =>
    have HT2:=hid ((J7 s hll hd).trans (by rw [HDC.out]));clear hd
    go_upto_region 7 with fail
    refine aK (S:=fun X=>X.cell? ⟨g,off+i*4,none⟩=some (.int .i64 f)∧X.cell? ⟨g,off+i*4+1,none⟩=some (.int .i64 e)) (by kernel_rfl) ⟨q0,q1⟩ fun ag=>?_
    have uG:=hid (HO.out.later (ah wr.heap.size wr).drew);have HB2:=hid (mY HB.out);obtain ⟨V,hV⟩:∃ V,wr.drew=V:=⟨_,rfl⟩;rw [hV] at ag uG HB2 ⊢;clear hV q0 q1 q2 HO HB;refine OP.m 0 rfl (.string s) ag ?_;simp only [OP.s];refine OP.m 1 rfl (.slice (some ⟨g,off,none⟩) n pc) ag ?_;simp only [OP.s];refine OP.m 2 rfl (.int .i64 i) ag ?_;simp only [OP.s];refine OP.t 3 rfl (.pointer (some ⟨g,off+i*4,none⟩)) (fun X hX=>ug 25 26 g off n i pc X rfl rfl rfl hlt) ag ?_;simp only [OP.s];refine OP.m 4 rfl (.pointer (some ⟨g,off+i*4,none⟩)) ag ?_;simp only [OP.s];refine OP.t 5 rfl (.int .i64 f) (fun X hX=>by obtain ⟨c0,c1⟩:=hX;go_simp) ag ?_;simp only [OP.s];refine OP.m 6 rfl (.slice (some ⟨g,off,none⟩) n pc) ag ?_;simp only [OP.s];refine OP.m 7 rfl (.int .i64 i) ag ?_;simp only [OP.s];refine OP.t 8 rfl (.pointer (some ⟨g,off+i*4,none⟩)) (fun X hX=>ug 30 31 g off n i pc X rfl rfl rfl hlt) ag ?_;simp only [OP.s];refine OP.m 9 rfl (.pointer (some ⟨g,off+i*4+1,none⟩)) ag ?_;simp only [OP.s];refine OP.t 10 rfl (.int .i64 e) (fun X hX=>by obtain ⟨c0,c1⟩:=hX;go_simp) ag ?_;simp only [OP.s];refine OP.t 11 rfl (.string tx) (fun X hX=>by have h:=Mb.out;go_simp) ag ?_;simp only [OP.s];refine OP.m 12 rfl (.string tx) ag ?_;simp only [OP.s];refine bz (by kernel_rfl) ?_ _;clear ag;have cD:=T.Ku tx V agD
    go_wp2_with fail
    refine cD.mono ?_;rintro e' w3 ⟨p,x,r,lv,hp,rfl,hk,hb3,_⟩;have nU:=hid (uG.out.later hb3);have HB3:=hid (HB2.out.trans (hb3.mono HB2.out.size));have HKK:=hid (aU.later (W':=w3) (fun _ _ _=>rfl) (fun b hb=>(show (_:Value).ownBlock≠some b∧b<w3.heap.size from ⟨fun h=>by have h1:=(uG.out.row.lt b h).2;have h2:V.heap.size≤b:=hb.1;omega,hb.2⟩)) _ _ (zC _ _ hk))
    have agE:Hid (Pb f e tx=⟨f,e,tx,p,x,r⟩):=hid (by
     have h2:declT tx=(p,x,r):=hp
     unfold Pb
     rw [h2])
    obtain ⟨k,tt,pf,pe,ks⟩:=p;obtain ⟨a,c,rfl⟩:=eD hk;obtain ⟨kb,hkb⟩:∃ z,aX k=z:=⟨_,rfl⟩;obtain ⟨tb,htb⟩:∃ z,aX tt=z:=⟨_,rfl⟩;obtain ⟨z0,hz0'⟩:∃ z,ks.length=z:=⟨_,rfl⟩
    have Hw:xB ⟨f,e,tx,.mk k tt pf pe ks,x,r⟩ (.slice a ks.length c)=[.int .i64 f,.int .i64 e,.string tx,.string kb,.string tb,.int .i64 pf,.int .i64 pe,.slice a z0 c,.int .i64 x,.int .i64 r]:=by
     rw [← hkb,← htb,← hz0'];rfl
    have LY:=hid Hw;simp only [arg,five];rw [hkb,htb,hz0'];obtain ⟨w4,hw4,hq4,hb4,Et⟩:=gY w3 (.cells #[.string kb,.string tb,.int .i64 pf,.int .i64 pe,.slice a z0 c] 49);have xE:=hid (nU.out.later hb4);have vw:=hid (HB3.out.trans (hb4.mono HB3.out.size));have acX:=hid (aU.later (W':=w4) (R':=fun b=>Value.ownBlock _≠some b∧b<w4.heap.size) (fun b hb _=>hb4.block b hb.2) (fun b hb=>⟨hb.1,aC hb.2 hb4.size⟩) _ _ HKK.out);have JO:=hid hq4;have q0:=(vw.out.cell (p:=⟨g,off+i*4,none⟩) hg).trans HPQ.out.1;have q1:=(vw.out.cell (p:=⟨g,off+i*4+1,none⟩) hg).trans HPQ.out.2;obtain ⟨oa,oc,rfl⟩:=eH xE.out.row;clear cD hk hb3 hb4 hq4 hp hkb htb hz0' Hw uG HB2 nU HKK
    go_upto_region 9 with fail
    try rw [hw4]
    refine aK (S:=fun X=>X.cell? ⟨g,off+i*4,none⟩=some (.int .i64 f)∧X.cell? ⟨g,off+i*4+1,none⟩=some (.int .i64 e)∧X.heap[w3.heap.size]?=some (.cells #[.string kb,.string tb,.int .i64 pf,.int .i64 pe,.slice a z0 c] 49 (0,0))∧Below w1.heap.size w1 X) (by kernel_rfl) ⟨q0,q1,JO.out,mY vw.out⟩ fun ag=>?_
    have HO5:=hid (xE.out.later (ah w4.heap.size w4).drew);have acY:=hid (aU.later (W:=w4) (W':=w4.drew) (R':=fun b=>(Value.slice oa m oc).ownBlock≠some b∧b<w4.drew.heap.size) (fun _ _ _=>rfl) (fun _ h=>h) _ _ acX.out);have HZ5:=hid (show w3.heap.size<w4.drew.heap.size from Et);have HGW:=hid (show g<w4.drew.heap.size from aC hg vw.out.size);obtain ⟨V5,Qh⟩:∃ V,w4.drew=V:=⟨_,rfl⟩;rw [Qh] at ag HO5 acY HZ5 HGW ⊢;clear Qh q0 q1 xE vw acX JO Et hw4;have HV:=hid ag;refine OP.m 0 rfl (.slice oa m oc) ag ?_;simp only [OP.s];refine OP.m 1 rfl (.slice (some ⟨g,off,none⟩) n pc) ag ?_;simp only [OP.s];refine OP.m 2 rfl (.int .i64 i) ag ?_;simp only [OP.s];refine OP.t 3 rfl (.pointer (some ⟨g,off+i*4,none⟩)) (fun X hX=>ug 43 44 g off n i pc X rfl rfl rfl hlt) ag ?_;simp only [OP.s];refine OP.m 4 rfl (.pointer (some ⟨g,off+i*4,none⟩)) ag ?_;simp only [OP.s];refine OP.t 5 rfl (.int .i64 f) (fun X hX=>by obtain ⟨c0,c1,c2,_⟩:=hX;go_simp) ag ?_;simp only [OP.s];refine OP.m 6 rfl (.slice (some ⟨g,off,none⟩) n pc) ag ?_;simp only [OP.s];refine OP.m 7 rfl (.int .i64 i) ag ?_;simp only [OP.s];refine OP.t 8 rfl (.pointer (some ⟨g,off+i*4,none⟩)) (fun X hX=>ug 48 49 g off n i pc X rfl rfl rfl hlt) ag ?_;simp only [OP.s];refine OP.m 9 rfl (.pointer (some ⟨g,off+i*4+1,none⟩)) ag ?_;simp only [OP.s];refine OP.t 10 rfl (.int .i64 e) (fun X hX=>by obtain ⟨c0,c1,c2,_⟩:=hX;go_simp) ag ?_;simp only [OP.s];refine OP.m 11 rfl (.string tx) ag ?_;simp only [OP.s]
    refine OP.t 12 rfl (.agg #[.string kb,.string tb,.int .i64 pf,.int .i64 pe,.slice a z0 c]) (fun X hX=>by obtain ⟨_,_,c2,_⟩:=hX;obtain ⟨⟨k0,k1,k2,k3,k4⟩,_⟩:=bZ c2;go_simp) ag ?_;simp only [OP.s];refine OP.m 13 rfl (.int .i64 x) ag ?_;simp only [OP.s];refine OP.m 14 rfl (.int .i64 r) ag ?_;simp only [OP.s];refine OP.t 15 rfl (.agg #[.int .i64 f,.int .i64 e,.string tx,.string kb,.string tb,.int .i64 pf,.int .i64 pe,.slice a z0 c,.int .i64 x,.int .i64 r]) (fun X hX=>by kernel_rfl) ag ?_;simp only [OP.s]
    refine OP.r 16 rfl fun K hK=>?_
    go_simp
    obtain ⟨X2,hX2,f2,b2,z2⟩:=gY V5 (.cells #[.int .i64 f,.int .i64 e,.string tx,.string kb,.string tb,.int .i64 pf,.int .i64 pe,.slice a z0 c,.int .i64 x,.int .i64 r] 60);rw [hX2];have hb2:=HV.out.2.2.2.trans (b2.mono HV.out.2.2.2.size);have hc0:=(b2.cell (p:=⟨g,off+i*4,none⟩) HGW.out).trans HV.out.1;have hc1:=(b2.cell (p:=⟨g,off+i*4+1,none⟩) HGW.out).trans HV.out.2.1;have hc2:=(b2.block _ HZ5.out).trans HV.out.2.2.1;have Tp:=hid (HO5.out.later b2);have Z4:=hid (aU.later (W':=X2) (R':=fun b=>(Value.slice oa m oc).ownBlock≠some b∧b<X2.heap.size) (fun b hb _=>b2.block b hb.2) (fun b hb=>⟨hb.1,aC hb.2 b2.size⟩) _ _ acY.out);have hgx:g<X2.heap.size:=aC HGW.out b2.size;have hzx:w3.heap.size<X2.heap.size:=aC HZ5.out b2.size;obtain ⟨g2,hg2⟩:∃ g,V5.heap.size=g:=⟨_,rfl⟩;rw [hg2] at f2 ⊢;clear hX2 b2 z2
    refine hK.out _ _ ⟨hc0,hc1,hc2,hb2⟩ fun ag=>?_
    try simp only [OP.s]
    clear hK K
    refine OP.r 17 rfl fun K hK=>?_
    refine dI _ (.tmp 42) (.tmp 58) 26 rfl w1.heap.size 60 iE (.agg #[.int .i64 0,.int .i64 0,.string ⟨#[]⟩,.string ⟨#[]⟩,.string ⟨#[]⟩,.int .i64 0,.int .i64 0,.slice none 0 0,.int .i64 0,.int .i64 0]) 10 120 Tryz.underlying26 hi0 hz0 hz1 hz2 rfl (by decide) (.slice oa m oc) m (kE L) rfl Tp.out.row ⟨g2,0,none⟩ 1 1 (kE [(⟨f,e,tx,.mk k tt pf pe ks,x,r⟩,.slice a ks.length c)]) rfl (by rw [qQ];rfl) (by
     rw [xy,LY.out]
     exact dn (cs:=#[.int .i64 f,.int .i64 e,.string tx,.string kb,.string tb,.int .i64 pf,.int .i64 pe,.slice a z0 c,.int .i64 x,.int .i64 r]) f2) (by rw [xy];exact Cq _ _ rfl) (by decide) (by unfold maxLen;omega) (by omega) hb2.size _ rfl ?_
    intro g4 c4 X3 w3' aN hat hlt3;have hb3:Below w1.heap.size w1 X3:=hb2.grown aN hb2.size (fun k hk=>(Tp.out.row.lt k hk).1)
    have hne:some g≠(Value.slice oa m oc).ownBlock:=fun h=>by have:=(Tp.out.row.lt g h.symm).1;omega
    have ac0:some w3.heap.size≠(Value.slice oa m oc).ownBlock:=fun h=>by
     have h1:=cZ Tp.out.row (k:=w3.heap.size) h.symm;obtain ⟨cs,fr,h2⟩:=h1;rw [hc2] at h2
     cases h2
    have hd0:X3.cell? ⟨g,off+i*4,none⟩=some (.int .i64 f):=by unfold World.cell? at hc0 ⊢;rw [aN.block g hgx hne];exact hc0
    have hd1:X3.cell? ⟨g,off+i*4+1,none⟩=some (.int .i64 e):=by unfold World.cell? at hc1 ⊢;rw [aN.block g hgx hne];exact hc1
    have hd2:=(aN.block _ hzx ac0).trans hc2;have HO7:=hid (Tp.out.add (d:=⟨f,e,tx,.mk k tt pf pe ks,x,r⟩) (lv:=.slice a ks.length c) Z4.out w3' aN hat);have Xh:=hid hb3
    refine hK.out _ _ ⟨hd0,hd1,hd2,hb3⟩ fun ag=>?_
    try simp only [OP.s]
    clear hK K;refine OP.m 18 rfl (.slice (some ⟨g4,0,none⟩) (m+1) c4) ag ?_;simp only [OP.s];refine bz (by kernel_rfl) ?_ _;clear ag w3' aN hat hlt3 hb3 hd0 hd1 hd2 hc0 hc1 hc2 hb2 f2 hne ac0 hgx hzx
    go_wp2_with fail
    go_roundw
    case rel=>exact ⟨i+1,m+1,_,by go_num,by omega,by omega,hid (by rw [HT2.out,List.map_append,HM.out,agE.out];rfl),HO7,Xh⟩
    case measure=>simp [Go.RowKit.intOf];omega
  ·obtain rfl:i=n:=by omega
   go_wp2_with fail
   go_ret
   have hP:P.take i=P:=bX (by rw [HN.out];exact ae _);refine ⟨_,rfl,?_,HB1.out.trans (HB.out.mono HB1.out.size)⟩;have h:=HO.out.dcs;rw [HM.out,hP] at h
   exact h.weak HB1.out.size (fun _ h=>h)
end Ud
namespace Ud
open Go.RowKit
open Go.Lib hiding intOf
open U S Q T J
open K (cZ)
theorem uo {o:Oper} {a:Act} (x y g off n i c:Nat) (W:World) (ho:o.op=.indexAddr 28 (.tmp x) (.tmp y)) (h1:a.eval (.tmp x)=.slice (some ⟨g,off,none⟩) n c) (h2:a.eval (.tmp y)=.int .i64 i) (hin:i<n):(execOp a.eval o).run Tryz.prog W=.ok (.value (.pointer (some ⟨g,off+i*10,none⟩))) W:=by
 have hm:(0:Int)≤(i:Int):=by omega
 have hm2:(i:Int)<(n:Int):=by omega
 have hr:(Instr.indexAt 28 (.slice (some ⟨g,off,none⟩) n c) (.int .i64 i)).run Tryz.prog W=.ok (.pointer (some ⟨g,off+i*10,none⟩)) W:=by
  simp [go_sem]
  intro h
  omega
 unfold execOp
 rw [ho];simp only [h1,h2,iQ,hr,eP,iR]
theorem Mi (D:List kD) (B:Nat) (R:Nat→Prop) (w:World) (v:Value) (hv:iY B R w D v) (hlen:D.length≤1000000) :
  Calls Tryz.prog 11 #[v] w fun e w'=>∃ v',e=.returned v'∧iY w.heap.size (fun _=>True) w' D v'∧Below w.heap.size w w':=by
 obtain ⟨iE,hi0,hz0,hz1,hz2⟩:=eB XA;obtain ⟨sa,sc,rfl⟩:=ny hv;obtain ⟨_,_,hrow⟩:=uJ hv;have HR:=hid hrow;obtain ⟨n,hn⟩:∃ n,D.length=n:=⟨_,rfl⟩;have HN:=hid hn;rw [hn] at hlen ⊢;clear hv hrow hn
 go_enter Tryz.func11,Tryz.ntmps11
 go_wp2_with fail
 go_loopw [3,4] (fun ov iv wr=>∃ (i:Nat) (L:List (kD × Value)),iv=.int .i64 i∧i≤n∧Hid (L.map (·.1)=D.take i)∧Hid (RowK w.heap.size wr ov i L)∧Hid (Below w.heap.size w wr)) (fun _ iv _=>n - (Go.RowKit.intOf iv).toNat)
 case atStart=>exact ⟨0,[],rfl,aM _,hid rfl,hid (RowK.nil _ _),hid (ah _ _)⟩
 case round =>
  obtain ⟨i,L,rfl,hi,HM,HO,HB⟩:=hrel;obtain ⟨oa,oc,rfl⟩:=eH HO.out.row
  by_cases hlt:i<n
  ·have hll:i<D.length:=by rw [HN.out];exact hlt
   obtain ⟨g,off,rfl,_,hg,hc⟩:=HR.out.resolve_left (fun h=>by rw [h] at hll;exact aS _ hll);obtain ⟨f,e,tx,k,tt,pf,pe,ks,a,c,x,r,hK⟩:=Bo (hc i hll);obtain ⟨kb,hkb⟩:∃ z,aX k=z:=⟨_,rfl⟩;obtain ⟨tb,htb⟩:∃ z,aX tt=z:=⟨_,rfl⟩;obtain ⟨z0,hz0'⟩:∃ z,ks.length=z:=⟨_,rfl⟩
   have LY:Hid (xB ⟨f,e,tx,.mk k tt pf pe ks,x,r⟩ (.slice a ks.length c)=[.int .i64 f,.int .i64 e,.string tx,.string kb,.string tb,.int .i64 pf,.int .i64 pe,.slice a z0 c,.int .i64 x,.int .i64 r]):=hid (by
    rw [← hkb,← htb,← hz0'];rfl)
   have dN:Hid (∀ X,Below w.heap.size w X→X.cell? ⟨g,off+i*10,none⟩=some (.int .i64 f)∧X.cell? ⟨g,off+i*10+1,none⟩=some (.int .i64 e)∧X.cell? ⟨g,off+i*10+2,none⟩=some (.string tx)∧X.cell? ⟨g,off+i*10+3,none⟩=some (.string kb)∧X.cell? ⟨g,off+i*10+3+1,none⟩=some (.string tb)∧X.cell? ⟨g,off+i*10+3+2,none⟩=some (.int .i64 pf)∧X.cell? ⟨g,off+i*10+3+3,none⟩=some (.int .i64 pe)∧X.cell? ⟨g,off+i*10+3+4,none⟩=some (.slice a z0 c)∧X.cell? ⟨g,off+i*10+8,none⟩=some (.int .i64 x)∧X.cell? ⟨g,off+i*10+9,none⟩=some (.int .i64 r)):=hid (fun X hX=>by
    have h:=hK.below hX;rw [← hkb,← htb,← hz0']
    exact ⟨h.c0,h.c1,h.c2,h.c3,h.c4,h.c5,h.c6,h.c7,h.c8,h.c9⟩)
   have HD:Hid (D.take (i+1)=D.take i++[⟨f,e,tx,.mk k tt pf pe ks,x,r⟩]):=hid (by rw [dC hll,hK.eq]);have HKK:Hid (∀ X,Below w.heap.size w X→aU X (fun b=>(Value.slice oa i oc).ownBlock≠some b∧b<X.heap.size) (.mk k tt pf pe ks) (.slice a ks.length c)):=hid (fun X hX=>aU.later (R:=fun b=>R b∧b<w.heap.size) (W:=w) (fun b hb _=>hX.block b hb.2) (fun b hb=>⟨fun h=>by have:=(HO.out.row.lt b h).1;omega,aC hb.2 hX.size⟩) _ _ (zC _ _ hK.kids));clear hc hK hkb htb hz0'
   go_upto_region 5 with fail
   refine aK (S:=fun X=>Below w.heap.size w X) (by kernel_rfl) (mY HB.out) fun ag=>?_
   have nU:=hid (HO.out.later (ah wr.heap.size wr).drew);obtain ⟨V,hV⟩:∃ V,wr.drew=V:=⟨_,rfl⟩;rw [hV] at ag nU ⊢;clear hV;have HV:=hid ag;refine OP.m 0 rfl (.slice oa i oc) ag ?_;simp only [OP.s];refine OP.m 1 rfl (.slice (some ⟨g,off,none⟩) n sc) ag ?_;simp only [OP.s];refine OP.m 2 rfl (.int .i64 i) ag ?_;simp only [OP.s];refine OP.t 3 rfl (.pointer (some ⟨g,off+i*10,none⟩)) (fun X hX=>uo 12 13 g off n i sc X rfl rfl rfl hlt) ag ?_;simp only [OP.s];refine OP.m 4 rfl (.pointer (some ⟨g,off+i*10,none⟩)) ag ?_;simp only [OP.s];refine OP.t 5 rfl (.int .i64 f) (fun X hX=>by obtain ⟨k0,k1,k2,k3,k4,k5,k6,k7,k8,k9⟩:=dN.out X hX;go_simp) ag ?_;simp only [OP.s];refine OP.m 6 rfl (.slice (some ⟨g,off,none⟩) n sc) ag ?_;simp only [OP.s];refine OP.m 7 rfl (.int .i64 i) ag ?_;simp only [OP.s];refine OP.t 8 rfl (.pointer (some ⟨g,off+i*10,none⟩)) (fun X hX=>uo 17 18 g off n i sc X rfl rfl rfl hlt) ag ?_;simp only [OP.s];refine OP.m 9 rfl (.pointer (some ⟨g,off+i*10+1,none⟩)) ag ?_;simp only [OP.s];refine OP.t 10 rfl (.int .i64 e) (fun X hX=>by obtain ⟨k0,k1,k2,k3,k4,k5,k6,k7,k8,k9⟩:=dN.out X hX;go_simp) ag ?_;simp only [OP.s];refine OP.m 11 rfl (.slice (some ⟨g,off,none⟩) n sc) ag ?_;simp only [OP.s];refine OP.m 12 rfl (.int .i64 i) ag ?_;simp only [OP.s];refine OP.t 13 rfl (.pointer (some ⟨g,off+i*10,none⟩)) (fun X hX=>uo 22 23 g off n i sc X rfl rfl rfl hlt) ag ?_;simp only [OP.s];refine OP.m 14 rfl (.pointer (some ⟨g,off+i*10+2,none⟩)) ag ?_;simp only [OP.s]
   refine OP.t 15 rfl (.string tx) (fun X hX=>by obtain ⟨k0,k1,k2,k3,k4,k5,k6,k7,k8,k9⟩:=dN.out X hX;go_simp) ag ?_;simp only [OP.s];refine OP.m 16 rfl (.slice (some ⟨g,off,none⟩) n sc) ag ?_;simp only [OP.s];refine OP.m 17 rfl (.int .i64 i) ag ?_;simp only [OP.s];refine OP.t 18 rfl (.pointer (some ⟨g,off+i*10,none⟩)) (fun X hX=>uo 27 28 g off n i sc X rfl rfl rfl hlt) ag ?_;simp only [OP.s];refine OP.m 19 rfl (.pointer (some ⟨g,off+i*10+3,none⟩)) ag ?_;simp only [OP.s];refine OP.t 20 rfl (.agg #[.string kb,.string tb,.int .i64 pf,.int .i64 pe,.slice a z0 c]) (fun X hX=>by obtain ⟨k0,k1,k2,k3,k4,k5,k6,k7,k8,k9⟩:=dN.out X hX;go_simp) ag ?_;simp only [OP.s];refine OP.m 21 rfl (.slice (some ⟨g,off,none⟩) n sc) ag ?_;simp only [OP.s];refine OP.m 22 rfl (.int .i64 i) ag ?_;simp only [OP.s];refine OP.t 23 rfl (.pointer (some ⟨g,off+i*10,none⟩)) (fun X hX=>uo 32 33 g off n i sc X rfl rfl rfl hlt) ag ?_;simp only [OP.s];refine OP.m 24 rfl (.pointer (some ⟨g,off+i*10+8,none⟩)) ag ?_;simp only [OP.s];refine OP.t 25 rfl (.int .i64 x) (fun X hX=>by obtain ⟨k0,k1,k2,k3,k4,k5,k6,k7,k8,k9⟩:=dN.out X hX;go_simp) ag ?_;simp only [OP.s];refine OP.m 26 rfl (.slice (some ⟨g,off,none⟩) n sc) ag ?_;simp only [OP.s];refine OP.m 27 rfl (.int .i64 i) ag ?_;simp only [OP.s];refine OP.t 28 rfl (.pointer (some ⟨g,off+i*10,none⟩)) (fun X hX=>uo 37 38 g off n i sc X rfl rfl rfl hlt) ag ?_;simp only [OP.s];refine OP.m 29 rfl (.pointer (some ⟨g,off+i*10+9,none⟩)) ag ?_;simp only [OP.s]
   refine OP.t 30 rfl (.int .i64 r) (fun X hX=>by obtain ⟨k0,k1,k2,k3,k4,k5,k6,k7,k8,k9⟩:=dN.out X hX;go_simp) ag ?_;simp only [OP.s];refine OP.t 31 rfl (.agg #[.int .i64 f,.int .i64 e,.string tx,.string kb,.string tb,.int .i64 pf,.int .i64 pe,.slice a z0 c,.int .i64 x,.int .i64 r]) (fun X hX=>by kernel_rfl) ag ?_;simp only [OP.s]
   refine OP.r 32 rfl fun K hK=>?_
   go_simp
   obtain ⟨X2,hX2,f2,b2,z2⟩:=gY V (.cells #[.int .i64 f,.int .i64 e,.string tx,.string kb,.string tb,.int .i64 pf,.int .i64 pe,.slice a z0 c,.int .i64 x,.int .i64 r] 60);rw [hX2];have hb2:=HV.out.trans (b2.mono HV.out.size);have Tp:=hid (nU.out.later b2);have Z4:=hid (HKK.out X2 hb2);obtain ⟨g2,hg2⟩:∃ g,V.heap.size=g:=⟨_,rfl⟩;rw [hg2] at f2 ⊢;clear hX2 b2 z2
   refine hK.out _ _ hb2 fun ag=>?_
   try simp only [OP.s]
   clear hK K
   refine OP.r 33 rfl fun K hK=>?_
   refine dI _ (.tmp 11) (.tmp 43) 26 rfl w.heap.size 60 iE (.agg #[.int .i64 0,.int .i64 0,.string ⟨#[]⟩,.string ⟨#[]⟩,.string ⟨#[]⟩,.int .i64 0,.int .i64 0,.slice none 0 0,.int .i64 0,.int .i64 0]) 10 120 Tryz.underlying26 hi0 hz0 hz1 hz2 rfl (by decide) (.slice oa i oc) i (kE L) rfl Tp.out.row ⟨g2,0,none⟩ 1 1 (kE [(⟨f,e,tx,.mk k tt pf pe ks,x,r⟩,.slice a ks.length c)]) rfl (by rw [qQ];rfl) (by
    rw [xy,LY.out]
    exact dn (cs:=#[.int .i64 f,.int .i64 e,.string tx,.string kb,.string tb,.int .i64 pf,.int .i64 pe,.slice a z0 c,.int .i64 x,.int .i64 r]) f2) (by rw [xy];exact Cq _ _ rfl) (by decide) (by unfold maxLen;omega) (by omega) hb2.size _ rfl ?_
   intro g4 c4 X3 w3' aN hat hlt3;have hb3:Below w.heap.size w X3:=hb2.grown aN hb2.size (fun k hk=>(Tp.out.row.lt k hk).1);have HO7:=hid (Tp.out.add (d:=⟨f,e,tx,.mk k tt pf pe ks,x,r⟩) (lv:=.slice a ks.length c) Z4.out w3' aN hat);have Xh:=hid hb3
   refine hK.out _ _ hb3 fun ag=>?_
   try simp only [OP.s]
   clear hK K;refine OP.m 34 rfl (.slice (some ⟨g4,0,none⟩) (i+1) c4) ag ?_;simp only [OP.s];refine bz (by kernel_rfl) ?_ _;clear ag w3' aN hat hlt3 hb3 hb2 f2
   go_wp2_with fail
   go_roundw
   case rel=>exact ⟨i+1,_,by go_num,by omega,hid (by rw [HD.out,List.map_append,HM.out];rfl),HO7,Xh⟩
   case measure=>simp [Go.RowKit.intOf];omega
  ·obtain rfl:i=n:=by omega
   go_wp2_with fail
   go_ret
   have hP:D.take i=D:=bX (by rw [HN.out];exact ae _);refine ⟨_,rfl,?_,HB.out⟩;have h:=HO.out.dcs;rw [HM.out,hP] at h
   exact h
end Ud
end Go.Proofs.YtojoahlpgmnbnaaGreatDoor
