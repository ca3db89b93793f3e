/- What the claim needs of the texts KTop, KTop2, KPop. -/
import Derived.Test.YtojoahlpgmnbnaaGreatDoorUOOp
import Derived.Test.YtojoahlpgmnbnaaGreatDoorUO4
import Derived.Laws.OwnMore
set_option maxRecDepth 20000
set_option maxHeartbeats 16000000
namespace Go.Proofs.YtojoahlpgmnbnaaGreatDoor
namespace K
open Go.RowKit
open Go.Lib hiding intOf
open U S T
section
variable {d:Nat} {L:List aZ} {size:Nat} {lv:Value} {s:St} {O:Nat→Prop}
theorem zQ {W:World} {B size n g c:Nat} {e:TypeId} {xs ys:List Value} (h:W.ownsRow B e size (.slice (some ⟨g,0,none⟩) (n+1) c) (n+1) (xs++ys)) (hx:xs.length=n*size):W.ownsRow B e size (.slice (some ⟨g,0,none⟩) n c) n xs:=by
 refine ⟨hx,?_⟩
 rcases h.2 with ⟨h1,_⟩|⟨g',cap,cur,hv,h2,h3,h4,h5,h6,h7⟩
 ·cases h1
 ·cases hv
  refine .inr ⟨g,c,cur,rfl,h2,h3,by omega,h5,h6,?_⟩
  have h8:cur.toList.take (n*size)=(cur.toList.take ((n+1)*size)).take (n*size):=by
   rw [List.take_take,Nat.min_eq_left (Nat.mul_le_mul_right _ (dZ n))]
  rw [h8,h7,List.take_append_of_le_length (by omega),bX (by omega)]
theorem ML (o:Open) (kv:Value):(six o kv).length=6:=rfl
structure pX (d:Nat) (O:Nat→Prop) (o:Open) (r:List Open) (ov:Value) (bs:List (Option Nat)) (xs:List Value) (W:World) (g c:Nat) (kv:Value) (ks mF:List Value) (qp:List (Option Nat)):Prop where
 hov:ov=.slice (some ⟨g,0,none⟩) (r.length+1) c
 hxs:xs=mF++six o kv
 hbs:bs=kv.ownBlock :: qp
 own:W.ownsRow 0 49 5 kv o.kids.length ks
 parts:aO W (Fr O W) o.kids ks
 rest:gL O W r mF qp
 len:mF.length=r.length*6
 cell:∀ j u,(six o kv)[j]?=some u→W.cell? ⟨g,r.length*6+j,none⟩=some u
 frozen:∀ j,W.frozen? ⟨g,j,none⟩=false
 ne:g≠d
 lt:g<W.heap.size
 ty:Ty W g 128
 apart:(∀ k,kv.ownBlock=some k→some k ∉ qp)∧Apart qp
theorem nG {W:World} {tv ov:Value} {bs:List (Option Nat)} {us xs:List Value} {o:Open} {r:List Open} (hM:nT d L size lv s O tv ov bs us xs W) (hs:s.opn=o :: r):∃ g c kv ks mF qp,pX d O o r ov bs xs W g c kv ks mF qp:=by
 have ho:=hM.opn;have hR:=hM.qx;have ha:=hM.apart;rw [hs] at ho hR;obtain ⟨kv,ks,mF,qp,rfl,rfl,h3,h4,h5⟩:=ho;obtain ⟨g,c,rfl,_,hgl⟩:=hR.form (dX _)
 have hlen:mF.length=r.length*6:=by have:=hR.1;rw [aM,ML,aH] at this;omega
 have hty:Ty W g 128:=dF hR rfl
 refine ⟨g,c,kv,ks,mF,qp,rfl,rfl,rfl,h3,h4,h5,hlen,fun j u hj=>?_,fun j=>hR.frozenAt j,fun e=>?_,hgl,hty,ha⟩
 ·have hj6:j<6:=by rw [← ML o kv];exact (aN.1 hj).1
  rw [hR.cellAt (r.length*6+j) (by rw [aH];omega),aK (by omega),show r.length*6+j - mF.length=j by omega]
  exact hj
 ·rw [e] at hty;exact absurd (hty.one ⟨_,_,hM.blk⟩) (by decide)
theorem Gm {W:World} {tv ov kv kv':Value} {bs qp:List (Option Nat)} {us xs mF ks ks':List Value} {o o':Open} {r:List Open} {g c:Nat} (hM:nT d L size lv s O tv ov bs us xs W) (hs:s.opn=o :: r) (hT:pX d O o r ov bs xs W g c kv ks mF qp)
  (j:Nat) (hj:j<6) (v:Value) (h6:six o' kv'=(six o kv).set j v) (NF:W.ownsRow 0 49 5 kv' o'.kids.length ks') (hks:aO W (Fr O W) o'.kids ks') (fw:kv'.ownBlock=kv.ownBlock) :
  nT d L size lv { s with opn:=o' :: r } O tv ov bs us (mF++six o' kv') (W.setCell ⟨g,r.length*6+j,none⟩ v)∧bN O O W (W.setCell ⟨g,r.length*6+j,none⟩ v):=by
 have hOg:O g:=(hM.own g).2 (.inr (.inr (.inl (by rw [hT.hov];rfl))))
 have hset:∀ k,k≠g→(W.setCell ⟨g,r.length*6+j,none⟩ v).heap[k]?=W.heap[k]?:=fun k hk=>ak _ _ _ _ hk
 have hS:bN O O W (W.setCell ⟨g,r.length*6+j,none⟩ v):=⟨rfl,rfl,rfl,by simp,fun _ h=>.inl h,fun k _ hO=>hset k (fun e=>hO (e ▸ hOg))⟩
 have ne:∀ {k:Nat} {t:TypeId},Ty W k t→t≠128→k≠g:=fun h1 h2 e=>by rw [e] at h1;exact h2 (h1.one hT.ty)
 have hR:=hM.qx;rw [hs,hT.hov,hT.hxs] at hR;have hst:=(hR.stored (r.length*6+j) v).1
 have aat:(mF++six o kv).set (r.length*6+j) v=mF++six o' kv':=by
  rw [h6,fo _ _ (by rw [hT.len];omega),show r.length*6+j - mF.length=j by rw [hT.len];omega]
 rw [aat] at hst
 refine ⟨⟨(hset d (fun e=>hT.ne e.symm)).trans hM.blk,hM.words.stay hS,iH hM.lQ (fun k hk=>hset k (ne (dF hM.lQ hk) (by decide))),hM.todo.stay hS,by rw [hT.hov];exact hst,
  ⟨kv',ks',mF,qp,rfl,by rw [hT.hbs,fw],iH NF (fun k hk=>hset k (ne (dF NF hk) (by decide))),lS hS hks,gL.stay hS hT.rest (fun k hk=>hset k (ne (og hT.rest hk) (by decide)))⟩,hM.apart,hM.own⟩,hS⟩
theorem yN {W:World} {tv ov kv:Value} {bs qp:List (Option Nat)} {us xs mF ks:List Value} {o:Open} {r:List Open} {g c:Nat} (hM:nT d L size lv s O tv ov bs us xs W) (hs:s.opn=o :: r) (hT:pX d O o r ov bs xs W g c kv ks mF qp) (t:By) (v:ByteArray) (hv:aU t=v) :
  nT d L size lv { s with opn:={ o with t:=t } :: r } O tv ov bs us (mF++six { o with t:=t } kv) (W.setCell ⟨g,r.length*6+1,none⟩ (.string v))∧bN O O W (W.setCell ⟨g,r.length*6+1,none⟩ (.string v)):=by
 subst hv
 exact Gm hM hs hT 1 (by decide) _ rfl hT.own hT.parts rfl
theorem vL {W:World} {tv ov kv:Value} {bs qp:List (Option Nat)} {us xs mF ks:List Value} {o:Open} {r:List Open} {g c:Nat} (hM:nT d L size lv s O tv ov bs us xs W) (hs:s.opn=o :: r) (hT:pX d O o r ov bs xs W g c kv ks mF qp) (k:By) (v:ByteArray) (hv:aU k=v) :
  nT d L size lv { s with opn:={ o with k:=k } :: r } O tv ov bs us (mF++six { o with k:=k } kv) (W.setCell ⟨g,r.length*6,none⟩ (.string v))∧bN O O W (W.setCell ⟨g,r.length*6,none⟩ (.string v)):=by
 subst hv
 exact Gm hM hs hT 0 (by decide) _ rfl hT.own hT.parts rfl
theorem nu {W:World} {tv ov kv:Value} {bs qp:List (Option Nat)} {us xs mF ks:List Value} {o:Open} {r:List Open} {g c:Nat} (hM:nT d L size lv s O tv ov bs us xs W) (hT:pX d O o r ov bs xs W g c kv ks mF qp) (hr:r.length≤1000000) {W':World} (hb:Below W.heap.size W W') :
  Calls Tryz.prog 104 #[ptr d] W' fun e W2=>e=.returned (.pointer (some ⟨g,r.length*6,none⟩))∧∃ m,W2=W'.drewN m:=by
 have hdl:d<W.heap.size:=(af.1 hM.blk).1;have h:=hM.blk;rw [hT.hov] at h
 exact Uh g (r.length+1) r.length c rfl (by omega) ((hb.cell (p:=⟨d,3,none⟩) hdl).trans (by simp [World.cell?,h]))
theorem nT.below {W W':World} {tv ov:Value} {bs:List (Option Nat)} {vs xs:List Value} (h:nT d L size lv s O tv ov bs vs xs W) (hb:Below W.heap.size W W'):nT d L size lv s O tv ov bs vs xs W':=by
 have hs:bN O O W W':=.of_below hb
 exact ⟨(hb.block d (af.1 h.blk).1).trans h.blk,h.words.stay hs,aV h.lQ hb,h.todo.stay hs,aV h.qx hb,
  gL.stay hs h.opn (fun g hg=>hb.block g (h.lt g ((h.own g).2 (.inr (.inr (.inr hg)))))),h.apart,h.own⟩
theorem jX (W:World) (m:Nat):Below W.heap.size W (W.drewN m):=⟨rfl,rfl,rfl,ae _,fun _ _=>rfl⟩
theorem pX.drewN {W:World} {ov kv:Value} {bs qp:List (Option Nat)} {xs mF ks:List Value} {o:Open} {r:List Open} {g c:Nat} (h:pX d O o r ov bs xs W g c kv ks mF qp) (m:Nat):pX d O o r ov bs xs (W.drewN m) g c kv ks mF qp :=
 ⟨h.hov,h.hxs,h.hbs,h.own,lS (W:=W) (W':=W.drewN m) (bN.of_below (jX W m)) h.parts,gL.stay (W:=W) (W':=W.drewN m) (bN.of_below (jX W m)) h.rest (fun _ _=>rfl),h.len,h.cell,h.frozen,h.ne,h.lt,h.ty,h.apart⟩
theorem XI {W:World} (hM:Mem d L size lv s O W) (hs:Small L s) (ho:∃ o r,s.opn=o :: r):Calls Tryz.prog 119 #[ptr d] W (Does d L size lv s.i O W (bD L size .name s)):=by
 obtain ⟨tw,tf,te,y,_,hW,hy,c1⟩:=jl hM hs.i;obtain ⟨o,r,ho⟩:=ho
 have hrl:r.length≤1000000:=by have:=hs.opn;rw [ho,aH] at this;omega
 have hfl:=fun X=>En (.int .i64 tw) (.string y) (.int .i64 tf) (.int .i64 te) X
 have aif:=fun X=>IU (.int .i64 tw) (.string y) (.int .i64 tf) (.int .i64 te) X
 simp only [bD,hW];obtain ⟨b0,h0⟩:∃ b,(tw==0)=b:=⟨_,rfl⟩;rw [h0]
 have hys:aU y.toList=y:=by unfold aU;rw [bu]
 cases b0 with
 | true =>
  rw [ay rfl,ho,hy];clear hy
  go_enter Tryz.func119,Tryz.ntmps119
  go_wp2_with fail
  refine c1.mono ?_;rintro e v0 ⟨rfl,hb0⟩;dsimp only;have hM0:=hM.below hb0;obtain ⟨tw2,tf2,te2,y2,_,hW2,_,c2⟩:=jl hM0 hs.i
  have NI:tw2=tw:=by have h1:=hW2 tw;rw [hW tw] at h1;simpa using h1.symm
  subst NI
  have ad5:=fun X=>IU (.int .i64 tw2) (.string y2) (.int .i64 tf2) (.int .i64 te2) X
  clear hW hW2
  go_wp2_with fail
  refine c2.mono ?_;rintro e v1 ⟨rfl,hb1⟩;dsimp only;have hM1:=hM0.below hb1
  go_wp2_with fail
  refine (MJ hM1 (aJ hs.i hs.len)).mono ?_;rintro e v2 ⟨rfl,hM2,hS2⟩;dsimp only;obtain ⟨tv,ov,bs,us,xs,hX⟩:=hM2;obtain ⟨g,c,kv,ks,mF,qp,hT⟩:=nG hX ho;have cT:=nu hX hT hrl (aj _ _)
  go_wp2_with fail
  refine cT.mono ?_;rintro e v3 ⟨rfl,mm,rfl⟩;dsimp only;have hX3:=hX.below (jX v2 mm);have PO:=hT.drewN mm;obtain ⟨q1,q2⟩:=yN hX3 ho PO y.toList y hys;have k1:=PO.cell 1 _ rfl;have f1:=PO.frozen (r.length*6+1);have H1:=hid q1;have H2:=hid (((bN.of_below hb0).trans (bN.of_below hb1)).trans (hS2.trans ((bN.of_below (jX v2 mm)).trans q2)));clear q1 q2 hX hT hX3 PO hM0 hM1 hS2 hb0 hb1
  go_wp2_with fail
  first|go_end0|refine aB (aI rfl _ _ _) rfl ?_
  exact ⟨rfl,_,⟨_,_,_,_,_,H1.out⟩,H2.out⟩
 | false =>
  rw [ai (by decide)]
  go_enter Tryz.func119,Tryz.ntmps119
  go_wp2_with fail
  refine c1.mono ?_;rintro e v0 ⟨rfl,hb0⟩;dsimp only;have hM0:=hM.below hb0;obtain ⟨tw2,tf2,te2,y2,_,hW2,_,c2⟩:=jl hM0 hs.i
  have NI:tw2=tw:=by have h1:=hW2 tw;rw [hW tw] at h1;simpa using h1.symm
  subst NI
  have ad5:=fun X=>IU (.int .i64 tw2) (.string y2) (.int .i64 tf2) (.int .i64 te2) X
  clear hW hW2
  go_wp2_with fail
  refine c2.mono ?_;rintro e v1 ⟨rfl,hb1⟩;dsimp only;have hM1:=hM0.below hb1
  go_wp2_with fail
  refine (I1 hM1 hs.i).mono ?_;rintro e v2 ⟨rfl,hb2⟩;dsimp only;have KY:=hb0.trans (hb1.mono hb0.size)
  exact ⟨rfl,rfl,KY.trans (hb2.mono KY.size)⟩
end
section
variable {d:Nat} {L:List aZ} {size:Nat} {lv:Value} {s:St} {O:Nat→Prop}
theorem pX.below {W W':World} {ov kv:Value} {bs qp:List (Option Nat)} {xs mF ks:List Value} {o:Open} {r:List Open} {g c:Nat} (h:pX d O o r ov bs xs W g c kv ks mF qp) (hb:Below W.heap.size W W'):pX d O o r ov bs xs W' g c kv ks mF qp:=by
 have hg:=hb.block g h.lt;obtain ⟨cs,fr,ht⟩:=h.ty
 exact ⟨h.hov,h.hxs,h.hbs,aV h.own hb,lS (W:=W) (W':=W') (bN.of_below hb) h.parts,gL.stay (W:=W) (W':=W') (bN.of_below hb) h.rest (fun k hk=>hb.block k (sW h.rest hk)),h.len,
  fun j u hj=>(hb.cell (p:=⟨g,_,none⟩) h.lt).trans (h.cell j u hj),fun j=>by have h1:=h.frozen j;simp only [World.frozen?] at h1 ⊢;rw [hg];exact h1,h.ne,aD h.lt hb.size,⟨cs,fr,hg.trans ht⟩,h.apart⟩
theorem Gn (y:ByteArray):aU y.toList=y:=by unfold aU;rw [bu]
theorem CG (t:By):∃ y:ByteArray,aU t=y∧t=y.toList:=⟨aU t,rfl,by unfold aU;rw [bu]⟩
theorem XJ {W:World} (hM:Mem d L size lv s O W) (hs:Small L s) (ho:∃ o r,s.opn=o :: r) (hi:s.i<L.length):Calls Tryz.prog 154 #[ptr d] W (Does d L size lv s.i O W (bD L size .text s)):=by
 obtain ⟨o,r,ho⟩:=ho
 have hrl:r.length≤1000000:=by have:=hs.opn;rw [ho,aH] at this;omega
 simp only [bD];obtain ⟨_,_,_,y0,_,_,hy0,_⟩:=jl hM hs.i;rw [ay hi,ho,hy0];obtain ⟨tv,ov,bs,us,xs,hX⟩:=id hM;obtain ⟨g,c,kv,ks,mF,qp,hT⟩:=nG hX ho;have cT:=nu hX hT hrl (aj _ _)
 go_enter Tryz.func154,Tryz.ntmps154
 go_wp2_with fail
 refine cT.mono ?_;rintro e v0 ⟨rfl,m0,rfl⟩;dsimp only;obtain ⟨tw,tf,te,y,_,_,hy,c1⟩:=jl (hM.below (jX W m0)) hs.i
 obtain rfl:y0=y:=by rw [← Gn y,← hy,hy0,Gn]
 clear hy hy0
 have hfl:=fun X=>En (.int .i64 tw) (.string y0) (.int .i64 tf) (.int .i64 te) X
 go_wp2_with fail
 refine c1.mono ?_;rintro e v1 ⟨rfl,hb1⟩;dsimp only;have KY:Below W.heap.size W v1:=(jX W m0).trans hb1;have hX1:=hX.below KY;have hT1:=hT.below KY;obtain ⟨q1,q2⟩:=yN hX1 ho hT1 y0.toList y0 (Gn y0);have k1:=hT1.cell 1 _ rfl;have f1:=hT1.frozen (r.length*6+1);have hM2:Mem d L size lv _ O _:=⟨_,_,_,_,_,q1⟩;obtain ⟨q3,q4,k3,f3⟩:=hM2.next ((s.i:Int)+1) (by dsimp only;omega);have e0:IntKind.i64.wrap ((s.i:Int)+1)=(s.i:Int)+1:=bg _ (by have:=hs.len;omega);have H3:=hid q3;have H4:=hid (((bN.of_below KY).trans q2).trans q4);dsimp only at k3;clear q1 q2 q3 q4 hM2 hX1 hT1 hX hT KY hb1
 go_wp2_with fail
 first|go_end0|refine aB (aI rfl _ _ _) rfl ?_
 exact ⟨rfl,O,H3.out,H4.out⟩
theorem KZ {W:World} (hM:Mem d L size lv s O W) (hs:Small L s) (ho:∃ o r,s.opn=o :: r):Calls Tryz.prog 147 #[ptr d] W (Does d L size lv s.i O W (bD L size .assigned s)):=by
 obtain ⟨o,r,ho⟩:=ho
 have hrl:r.length≤1000000:=by have:=hs.opn;rw [ho,aH] at this;omega
 obtain ⟨tw,tf,te,y,hP,_,Qy,c1⟩:=jl hM hs.i
 have hfl:=fun X=>En (.int .i64 tw) (.string y) (.int .i64 tf) (.int .i64 te) X
 have hlt:¬ y.toList=[]→s.i+1≤L.length:=fun hne=>by
  rcases dW s.i L.length with h|h
  ·exact h
  ·exact absurd (by rw [← Qy,qF size (by omega)]) hne
 simp only [bD,hP,ho];clear hP Qy;obtain ⟨b0,h⟩:∃ b,(y.toList==[61])=b:=⟨_,rfl⟩
 cases b0 with
 | true =>
  have K3:=hlt (by intro hn;rw [hn] at h;cases h);clear hlt;rw [ay (show (y.toList==[61])=true from h)]
  go_enter Tryz.func147,Tryz.ntmps147
  go_wp2_with fail
  refine c1.mono ?_;rintro e v0 ⟨rfl,hb0⟩;dsimp only;obtain ⟨tv,ov,bs,us,xs,hX⟩:=hM.below hb0;obtain ⟨g,c,kv,ks,mF,qp,hT⟩:=nG hX ho;have cT:=nu hX hT hrl (aj _ _)
  go_wp2_with fail
  refine cT.mono ?_;rintro e v1 ⟨rfl,m0,rfl⟩;dsimp only;have hX1:=hX.below (jX v0 m0);have hT1:=hT.drewN m0;obtain ⟨q1,q2⟩:=vL hX1 ho hT1 pM ⟨#[97,115,115,105,103,110]⟩ rfl;have k1:=hT1.cell 0 _ rfl;rw [bS] at k1;have f1:=hT1.frozen (r.length*6);have hM2:Mem d L size lv _ O _:=⟨_,_,_,_,_,q1⟩;obtain ⟨q3,q4,k3,f3⟩:=hM2.next ((s.i:Int)+1) (by dsimp only;omega);have e0:IntKind.i64.wrap ((s.i:Int)+1)=(s.i:Int)+1:=bg _ (by have:=hs.i;have:=hs.len;omega);have H3:=hid q3;have H4:=hid (((bN.of_below hb0).trans (bN.of_below (jX v0 m0))).trans (q2.trans q4));dsimp only at k3;clear q1 q2 q3 q4 hM2 hX1 hT1 hX hT hb0
  go_wp2_with fail
  refine (Gl H3.out ⟨K3,hs.len,hs.todo,by simpa [ho] using hs.opn,fun p hp=>by
   rcases bA.1 hp with rfl|hp
   ·exact hs.kids o (by rw [ho];exact bO)
   ·exact hs.kids p (by rw [ho];exact bf _ hp)⟩).mono ?_
  rintro e v9 ⟨rfl,O9,Cz,CF⟩;dsimp only
  (try go_wp2_with fail)
  first|go_end0|refine aB (aI rfl _ _ _) rfl ?_
  exact ⟨rfl,O9,Cz,H4.out.trans CF⟩
 | false =>
 rw [ai (show ¬ (y.toList==[61])=true by rw [show (y.toList==[61])=false from h];decide)];have h1:=h;clear h;obtain ⟨b0,h⟩:∃ b,(y.toList==[58,61])=b:=⟨_,rfl⟩
 cases b0 with
 | true =>
  have K3:=hlt (by intro hn;rw [hn] at h;cases h);clear hlt;rw [ay (show (y.toList==[58,61])=true from h)]
  go_enter Tryz.func147,Tryz.ntmps147
  go_wp2_with fail
  refine c1.mono ?_;rintro e v0 ⟨rfl,hb0⟩;dsimp only;obtain ⟨tv,ov,bs,us,xs,hX⟩:=hM.below hb0;obtain ⟨g,c,kv,ks,mF,qp,hT⟩:=nG hX ho;have cT:=nu hX hT hrl (aj _ _)
  go_wp2_with fail
  refine cT.mono ?_;rintro e v1 ⟨rfl,m0,rfl⟩;dsimp only;have hX1:=hX.below (jX v0 m0);have hT1:=hT.drewN m0;obtain ⟨q1,q2⟩:=vL hX1 ho hT1 pN ⟨#[100,101,102,105,110,101]⟩ rfl;have k1:=hT1.cell 0 _ rfl;rw [bS] at k1;have f1:=hT1.frozen (r.length*6);have hM2:Mem d L size lv _ O _:=⟨_,_,_,_,_,q1⟩;obtain ⟨q3,q4,k3,f3⟩:=hM2.next ((s.i:Int)+1) (by dsimp only;omega);have e0:IntKind.i64.wrap ((s.i:Int)+1)=(s.i:Int)+1:=bg _ (by have:=hs.i;have:=hs.len;omega);have H3:=hid q3;have H4:=hid (((bN.of_below hb0).trans (bN.of_below (jX v0 m0))).trans (q2.trans q4));dsimp only at k3;clear q1 q2 q3 q4 hM2 hX1 hT1 hX hT hb0
  go_wp2_with fail
  refine (Gl H3.out ⟨K3,hs.len,hs.todo,by simpa [ho] using hs.opn,fun p hp=>by
   rcases bA.1 hp with rfl|hp
   ·exact hs.kids o (by rw [ho];exact bO)
   ·exact hs.kids p (by rw [ho];exact bf _ hp)⟩).mono ?_
  rintro e v9 ⟨rfl,O9,Cz,CF⟩;dsimp only
  (try go_wp2_with fail)
  first|go_end0|refine aB (aI rfl _ _ _) rfl ?_
  exact ⟨rfl,O9,Cz,H4.out.trans CF⟩
 | false =>
 rw [ai (show ¬ (y.toList==[58,61])=true by rw [show (y.toList==[58,61])=false from h];decide)]
 go_enter Tryz.func147,Tryz.ntmps147
 go_wp2_with fail
 refine c1.mono ?_;rintro e v0 ⟨rfl,hb0⟩;dsimp only;have hM0:=hM.below hb0
 go_wp2_with fail
 first|go_end0|refine aB (aI rfl _ _ _) rfl ?_
 exact ⟨rfl,O,hM0,.of_below hb0⟩
theorem Qz {W:World} (hM:Mem d L size lv s O W) (hs:Small L s) (ho:∃ o r,s.opn=o :: r):Calls Tryz.prog 159 #[ptr d] W (Does d L size lv s.i O W (bD L size .called s)):=by
 obtain ⟨o,r,ho⟩:=ho
 have hrl:r.length≤1000000:=by have:=hs.opn;rw [ho,aH] at this;omega
 have oh:=oh;have c1:=iM hM hs.i [40];simp only [bD]
 cases h0:rY L size [40] s.i with
 | false =>
  rw [h0] at c1;rw [ai (by decide)]
  go_enter Tryz.func159,Tryz.ntmps159
  go_wp2_with fail
  refine c1.mono ?_;rintro e v0 ⟨rfl,hb0⟩;dsimp only;have hM0:=hM.below hb0
  go_wp2_with fail
  first|go_end0|refine aB (aI rfl _ _ _) rfl ?_
  exact ⟨rfl,O,hM0,.of_below hb0⟩
 | true =>
 rw [h0] at c1;rw [ay rfl,ho];dsimp only;have e0:IntKind.i64.wrap ((s.i:Int)+1)=(s.i:Int)+1:=bg _ (by have:=hs.i;have:=hs.len;omega);obtain ⟨yo,hyo,Qy⟩:=CG o.t
 by_cases h1:o.t=pU
 ·rw [ay h1]
  have h2:(yo.toList==[110,101,119])=true:=by rw [← Qy,h1];rfl
  clear h1 Qy
  go_enter Tryz.func159,Tryz.ntmps159
  go_wp2_with fail
  refine c1.mono ?_;rintro e v0 ⟨rfl,hb0⟩;dsimp only;have hM0:=hM.below hb0;obtain ⟨q3,q4,k3,f3⟩:=hM0.next ((s.i:Int)+1) (by omega);have H3:=hid q3;have H4:=hid ((bN.of_below hb0).trans q4);clear q3 q4 hM0 hb0
  go_wp2_with fail
  obtain ⟨tv,ov,bs,us,xs,hX⟩:=H3.out;obtain ⟨g,c,kv,ks,mF,qp,hT⟩:=nG hX ho;have cT:=nu hX hT hrl (aj _ _);clear k3 f3;refine cT.mono ?_;rintro e v1 ⟨rfl,m0,rfl⟩;dsimp only;generalize v0.setCell ⟨d,1,none⟩ (.int .i64 ((s.i:Int)+1))=w1 at H3 H4 hX hT cT ⊢;have hX1:=hX.below (jX w1 m0);have hT1:=hT.drewN m0;have k0:=hT1.cell 0 _ rfl;rw [bS] at k0;have f0:=hT1.frozen (r.length*6);have k1:=hT1.cell 1 _ rfl;rw [hyo] at k1;have f1:=hT1.frozen (r.length*6+1);obtain ⟨q1,q2⟩:=vL hX1 ho hT1 pU ⟨#[110,101,119]⟩ rfl;have ho2:({ s with i:=s.i+1,opn:={ o with k:=pU } :: r }:St).opn={ o with k:=pU } :: r:=rfl;obtain ⟨g2,c2,kv2,ks2,us2,bs2,Kl⟩:=nG q1 ho2
  have hgg:g2=g∧c2=c:=by have h1:=Kl.hov;rw [hT1.hov] at h1;simp only [cZ,bW,Addr.mk.injEq,and_true,true_and] at h1;exact ⟨h1.1.symm,h1.2.symm⟩
  obtain ⟨rfl,rfl⟩:=hgg;obtain ⟨q3,q4⟩:=yN q1 ho2 Kl [] ⟨#[]⟩ rfl;have k2:=Kl.cell 1 _ rfl;have f2:=Kl.frozen (r.length*6+1);rw [show aU ({ o with k:=pU }:Open).t=yo from hyo] at k2;have hM2:Mem d L size lv _ O _:=⟨_,_,_,_,_,q3⟩;have hS2:=(H4.out.trans (bN.of_below (jX w1 m0))).trans (q2.trans q4);clear cT
  go_wp2_with fail
  refine (ed hM2 [41]).mono ?_;rintro e v21 ⟨Wq,Ws,rfl,Gp,Gq,CJ⟩;dsimp only;have Gr:=hM2.below CJ
  go_wp2_with fail
  refine (dJ Gr [.m .typeOf,.word [41]] [.func (.func 136) #[ptr d] #[],.func (.func 131) #[] #[ptr Wq,ptr Ws]] 2 rfl ⟨_,_,rfl,rfl,⟨_,_,rfl,⟨Wq,Ws,rfl,Gp,Gq⟩,rfl⟩⟩ (by decide) hs.todo).mono ?_;rintro e v22 ⟨rfl,O22,QA,ad6⟩;dsimp only
  (try go_wp2_with fail)
  first|go_end0|refine aB (aI rfl _ _ _) rfl ?_
  exact ⟨rfl,O22,QA,((hS2.trans (bN.of_below CJ)).trans ad6)⟩
 ·rw [ai h1]
  by_cases h3:o.t=jM
  focus
   rw [ay h3]
   have h2:(yo.toList==[110,101,119])=false:=by rw [← Qy,h3];rfl
   have h4:(yo.toList==[109,97,107,101])=true:=by rw [← Qy,h3];rfl
   clear h1 h3 Qy
   go_enter Tryz.func159,Tryz.ntmps159
   go_wp2_with fail
   refine c1.mono ?_;rintro e v0 ⟨rfl,hb0⟩;dsimp only;have hM0:=hM.below hb0;obtain ⟨q3,q4,k3,f3⟩:=hM0.next ((s.i:Int)+1) (by omega);have H3:=hid q3;have H4:=hid ((bN.of_below hb0).trans q4);clear q3 q4 hM0 hb0
   go_wp2_with fail
   obtain ⟨tv,ov,bs,us,xs,hX⟩:=H3.out;obtain ⟨g,c,kv,ks,mF,qp,hT⟩:=nG hX ho;have cT:=nu hX hT hrl (aj _ _);clear k3 f3;refine cT.mono ?_;rintro e v1 ⟨rfl,m0,rfl⟩;dsimp only;generalize v0.setCell ⟨d,1,none⟩ (.int .i64 ((s.i:Int)+1))=w1 at H3 H4 hX hT cT ⊢;have hX1:=hX.below (jX w1 m0);have hT1:=hT.drewN m0;have k0:=hT1.cell 0 _ rfl;rw [bS] at k0;have f0:=hT1.frozen (r.length*6);have k1:=hT1.cell 1 _ rfl;rw [hyo] at k1;have f1:=hT1.frozen (r.length*6+1);obtain ⟨q1,q2⟩:=vL hX1 ho hT1 jM ⟨#[109,97,107,101]⟩ rfl;have ho2:({ s with i:=s.i+1,opn:={ o with k:=jM } :: r }:St).opn={ o with k:=jM } :: r:=rfl;obtain ⟨g2,c2,kv2,ks2,us2,bs2,Kl⟩:=nG q1 ho2
   have hgg:g2=g∧c2=c:=by have h1:=Kl.hov;rw [hT1.hov] at h1;simp only [cZ,bW,Addr.mk.injEq,and_true,true_and] at h1;exact ⟨h1.1.symm,h1.2.symm⟩
   obtain ⟨rfl,rfl⟩:=hgg;obtain ⟨q3,q4⟩:=yN q1 ho2 Kl [] ⟨#[]⟩ rfl;have k2:=Kl.cell 1 _ rfl;have f2:=Kl.frozen (r.length*6+1);rw [show aU ({ o with k:=jM }:Open).t=yo from hyo] at k2;have hM2:Mem d L size lv _ O _:=⟨_,_,_,_,_,q3⟩;have hS2:=(H4.out.trans (bN.of_below (jX w1 m0))).trans (q2.trans q4);clear cT
   go_wp2_with fail
   refine (ed hM2 [44]).mono ?_;rintro e v21 ⟨Wq,Ws,rfl,Gp,Gq,CJ⟩;dsimp only;have Gr:=hM2.below CJ
   go_wp2_with fail
   refine (ed Gr [41]).mono ?_;rintro e v22 ⟨p22,q22,rfl,XK,XL,zR⟩;dsimp only;replace Gp:=Gp.below zR;replace Gq:=Gq.below zR;have QA:=Gr.below zR
   go_wp2_with fail
   refine (dJ QA [.m .typeOf,.word [44],.m .expr,.word [41]] [.func (.func 136) #[ptr d] #[],.func (.func 131) #[] #[ptr Wq,ptr Ws],.func (.func 146) #[ptr d] #[],.func (.func 131) #[] #[ptr p22,ptr q22]] 4 rfl ⟨_,_,rfl,rfl,⟨_,_,rfl,⟨Wq,Ws,rfl,Gp,Gq⟩,⟨_,_,rfl,rfl,⟨_,_,rfl,⟨p22,q22,rfl,XK,XL⟩,rfl⟩⟩⟩⟩ (by decide) hs.todo).mono ?_
  rotate_left
  focus
   rw [ai h3]
   have h2:(yo.toList==[110,101,119])=false:=by rw [← Qy];exact dU.2 h1
   have h4:(yo.toList==[109,97,107,101])=false:=by rw [← Qy];exact dU.2 h3
   clear h1 h3 Qy
   go_enter Tryz.func159,Tryz.ntmps159
   go_wp2_with fail
   refine c1.mono ?_;rintro e v0 ⟨rfl,hb0⟩;dsimp only;have hM0:=hM.below hb0;obtain ⟨q3,q4,k3,f3⟩:=hM0.next ((s.i:Int)+1) (by omega);have H3:=hid q3;have H4:=hid ((bN.of_below hb0).trans q4);clear q3 q4 hM0 hb0
   go_wp2_with fail
   obtain ⟨tv,ov,bs,us,xs,hX⟩:=H3.out;obtain ⟨g,c,kv,ks,mF,qp,hT⟩:=nG hX ho;have cT:=nu hX hT hrl (aj _ _);clear k3 f3;refine cT.mono ?_;rintro e v1 ⟨rfl,m0,rfl⟩;dsimp only;generalize v0.setCell ⟨d,1,none⟩ (.int .i64 ((s.i:Int)+1))=w1 at H3 H4 hX hT cT ⊢;have hX1:=hX.below (jX w1 m0);have hT1:=hT.drewN m0;have k0:=hT1.cell 0 _ rfl;rw [bS] at k0;have f0:=hT1.frozen (r.length*6);have k1:=hT1.cell 1 _ rfl;rw [hyo] at k1;have f1:=hT1.frozen (r.length*6+1);obtain ⟨q1,q2⟩:=vL hX1 ho hT1 mO ⟨#[99,97,108,108]⟩ rfl;have hM2:Mem d L size lv _ O _:=⟨_,_,_,_,_,q1⟩;have hS2:=(H4.out.trans (bN.of_below (jX w1 m0))).trans q2;clear cT
   go_wp2_with fail
   refine (AP hM2 146).mono ?_;rintro e v21 ⟨Wq,Ws,rfl,Gp,Gq,CJ⟩;dsimp only;have Gr:=hM2.below CJ
   go_wp2_with fail
   refine (ed Gr [41]).mono ?_;rintro e v22 ⟨p22,q22,rfl,XK,XL,zR⟩;dsimp only;replace Gp:=Gp.below zR;replace Gq:=Gq.below zR;have QA:=Gr.below zR
   go_wp2_with fail
   refine (dJ QA [.jE .expr,.word [41]] [.func (.func 142) #[] #[ptr Wq,ptr Ws],.func (.func 131) #[] #[ptr p22,ptr q22]] 2 rfl ⟨_,_,rfl,⟨Wq,Ws,rfl,Gp,Gq⟩,⟨_,_,rfl,⟨p22,q22,rfl,XK,XL⟩,rfl⟩⟩ (by decide) hs.todo).mono ?_
  rotate_left
  all_goals
   rintro e v23 ⟨rfl,O23,ad7,ad8⟩;dsimp only
   (try go_wp2_with fail)
   first|go_end0|refine aB (aI rfl _ _ _) rfl ?_
   exact ⟨rfl,O23,ad7,(((hS2.trans (bN.of_below CJ)).trans (bN.of_below zR)).trans ad8)⟩
end
section
variable {d:Nat} {L:List aZ} {size:Nat} {lv:Value} {s:St} {O:Nat→Prop}
theorem mU {W:World} {R:Nat→Prop} {kv:Value} {ks:List Value} {l:List Pt} (h:W.ownsRow 0 49 5 kv l.length ks) (hp:aO W R l ks) (hR:∀ k,kv.ownBlock=some k→R k) (k t:By) (f e:Int):aT W R (.mk k t f e l) kv:=by
 rcases h.2 with ⟨rfl,h0⟩|⟨g,cap,cur,rfl,_,h3,h4,_,h6,h7⟩
 ·have:l=[]:=dw.1 h0
  subst this
  exact ⟨none,0,rfl,ae _,.inl rfl⟩
 ·refine ⟨_,cap,rfl,h4,.inr ⟨g,0,ks,rfl,hR g rfl,fun j u hj=>?_,hp⟩⟩
  rw [bz,h.cellAt j (by rw [← h.1];exact (aN.1 hj).1)]
  exact hj
theorem Uu {W:World} {tv ov kv:Value} {bs qp:List (Option Nat)} {us xs mF ks:List Value} {o a:Open} {r:List Open} {g c:Nat} (hM:nT d L size lv s O tv ov bs us xs W) (hs:s.opn=o :: a :: r) (hT:pX d O o (a :: r) ov bs xs W g c kv ks mF qp) :
  ∃ O',nT d L size lv { s with opn:=a :: r } O' tv (.slice (some ⟨g,0,none⟩) (r.length+1) c) qp us mF (W.setCell ⟨d,3,none⟩ (.slice (some ⟨g,0,none⟩) (r.length+1) c))∧bN O O' W (W.setCell ⟨d,3,none⟩ (.slice (some ⟨g,0,none⟩) (r.length+1) c)) ∧
   (W.setCell ⟨d,3,none⟩ (.slice (some ⟨g,0,none⟩) (r.length+1) c)).ownsRow 0 49 5 kv o.kids.length ks∧aO (W.setCell ⟨d,3,none⟩ (.slice (some ⟨g,0,none⟩) (r.length+1) c)) (Fr O' (W.setCell ⟨d,3,none⟩ (.slice (some ⟨g,0,none⟩) (r.length+1) c))) o.kids ks ∧
   (∀ k,kv.ownBlock=some k→Fr O' (W.setCell ⟨d,3,none⟩ (.slice (some ⟨g,0,none⟩) (r.length+1) c)) k)∧W.cell? ⟨d,3,none⟩=some ov∧W.frozen? ⟨d,3,none⟩=false:=by
 have hb:=hM.blk;have hdl:d<W.heap.size:=(af.1 hb).1;obtain ⟨W',wZ⟩:∃ W',W.setCell ⟨d,3,none⟩ (.slice (some ⟨g,0,none⟩) (r.length+1) c)=W':=⟨_,rfl⟩
 have hset:∀ k,k≠d→W'.heap[k]?=W.heap[k]?:=fun k hk=>by rw [← wZ];exact ak _ _ _ _ hk
 have XM:W'.heap[d]?=some (.cells #[lv,.int .i64 s.i,tv,.slice (some ⟨g,0,none⟩) (r.length+1) c] 123 (0,0)):=by rw [← wZ];exact az hb _
 have hsz:W'.heap.size=W.heap.size:=by rw [← wZ];simp
 have ne:∀ {k:Nat} {t:TypeId},Ty W k t→t≠123→k≠d:=fun h1 h2 e=>by rw [e] at h1;exact h2 (h1.one ⟨_,_,hb⟩)
 have ZI:O d:=(hM.own d).2 (.inl rfl);have hOg:O g:=(hM.own g).2 (.inr (.inr (.inl (by rw [hT.hov];rfl))));rw [wZ]
 have hS:bN O (fun k=>k=d∨tv.ownBlock=some k∨(Value.slice (some ⟨g,0,none⟩) (r.length+1) c).ownBlock=some k∨some k∈qp) W W':=by
  refine ⟨by rw [← wZ];rfl,by rw [← wZ];rfl,by rw [← wZ];rfl,by omega,?_,fun k hk hO=>hset k (fun e=>hO (e ▸ ZI))⟩;rintro k (rfl|h1|h1|h1)
  ·exact .inl ZI
  ·exact .inl ((hM.own k).2 (.inr (.inl h1)))
  ·obtain rfl:g=k:=by simpa [Value.ownBlock] using h1
   exact .inl hOg
  ·exact .inl ((hM.own k).2 (.inr (.inr (.inr (by rw [hT.hbs];exact bf _ h1)))))
 have hR:=hM.qx;rw [hs,hT.hov,hT.hxs] at hR
 have hkn:∀ k,kv.ownBlock=some k→¬ (k=d∨tv.ownBlock=some k∨(Value.slice (some ⟨g,0,none⟩) (r.length+1) c).ownBlock=some k∨some k∈qp):=by
  rintro k hk (h1|h1|h1|h1)
  ·exact ne (dF hT.own hk) (by decide) h1
  ·exact absurd ((dF hT.own hk).one (dF hM.lQ h1)) (by decide)
  ·obtain rfl:g=k:=by simpa [Value.ownBlock] using h1
   exact absurd ((dF hT.own hk).one hT.ty) (by decide)
  ·exact hT.apart.1 k hk h1
 have hown':=iH hT.own (fun k hk=>hset k (ne (dF hT.own hk) (by decide)))
 have hfr:∀ k,kv.ownBlock=some k→Fr (fun k=>k=d∨tv.ownBlock=some k∨(Value.slice (some ⟨g,0,none⟩) (r.length+1) c).ownBlock=some k∨some k∈qp) W' k:=fun k hk=>by
  obtain ⟨cs,fr,h⟩:=dF hown' hk
  exact ⟨(af.1 h).1,hkn k hk,_,h,rfl⟩
 refine ⟨_,⟨XM,hM.words.stay hS,iH hM.lQ (fun k hk=>hset k (ne (dF hM.lQ hk) (by decide))),hM.todo.stay hS,?_,gL.stay hS hT.rest (fun k hk=>hset k (ne (og hT.rest hk) (by decide))),hT.apart.2,fun k=>Iff.rfl⟩,hS,hown',lS hS hT.parts,hfr,by simp [World.cell?,hb],by simp [World.frozen?,hb]⟩
 exact iH (zQ hR hT.len) (fun k hk=>hset k (fun e=>hT.ne ((aY hk).trans e)))
theorem ry {W:World} {R:Nat→Prop}:∀ {l:List Pt} {xs:List Value} {i:Nat} {q:Pt},aO W R l xs→l[i]?=some q→∃ qv,aT W R q qv∧∀ j,j<5→xs[i*5+j]?=(five q qv)[j]?
 | [],_,i,q,_,h=>by simp at h
 | p :: r,xs,0,q,⟨pv,rest,h1,h2,_⟩,h=>by
  obtain rfl:p=q:=by simpa using h
  exact ⟨pv,h2,fun j hj=>by rw [h1,Nat.zero_mul,bz,bn (by rw [eO];exact hj)]⟩
 | p :: r,xs,i+1,q,⟨pv,rest,h1,_,h3⟩,h=>by
  obtain ⟨qv,h4,h5⟩:=ry h3 (by simpa using h)
  exact ⟨qv,h4,fun j hj=>by rw [h1,aK (by rw [eO];omega),eO,show (i+1)*5+j - 5=i*5+j by omega];exact h5 j hj⟩
theorem K4 (l:List Pt) (k t:By) (f e:Int) (ks:List Pt) (h:l.getLast?=some (.mk k t f e ks)):vz l=e:=by unfold vz;rw [h]
theorem sZ {W:World} {R:Nat→Prop} (l:List Pt) (kv:Value) (ks:List Value) (bY:W.ownsRow 0 49 5 kv l.length ks) (hp:aO W R l ks) (hl:l.length≤1000000) :
  Calls Tryz.prog 138 #[kv] W fun e W'=>e=.returned (.tuple #[.int .i64 (yE l),.int .i64 (vz l)])∧∃ m,W'=W.drewN m:=by
 by_cases h0:l.length=0
 ·obtain ⟨ka,kc,rfl⟩:=fD bY
  have:l=[]:=dw.1 h0;subst this;clear bY hp
  go_enter Tryz.func138,Tryz.ntmps138
  go_wp2_with fail
  go_ret2
  exact ⟨rfl,0,rfl⟩
 ·obtain ⟨k,hk⟩:∃ k,l.length=k+1:=⟨l.length - 1,by omega⟩
  obtain ⟨gk,kc,rfl,_,_⟩:=bY.form (by omega);obtain ⟨q0,hq0⟩:∃ q,l[0]?=some q:=⟨l[0],aC (by omega)⟩;obtain ⟨q1,hq1⟩:∃ q,l[k]?=some q:=⟨l[k],aC (by omega)⟩;obtain ⟨v0,_,e0⟩:=ry hp hq0;obtain ⟨v1,_,e1⟩:=ry hp hq1
  have c0:W.cell? ⟨gk,2,none⟩=(five q0 v0)[2]?:=by rw [bY.cellAt 2 (by omega),← e0 2 (by omega)]
  have c1:W.cell? ⟨gk,k*5+3,none⟩=(five q1 v1)[3]?:=by rw [bY.cellAt (k*5+3) (by omega),← e1 3 (by omega)]
  obtain ⟨k0,t0,f0,x0,n0⟩:=q0;obtain ⟨k1,t1,f1,x1,n1⟩:=q1
  have hF:yE l=f0:=by
   cases l with
   | nil=>simp at hq0
   | cons a b=>obtain rfl:a=_:=by simpa using hq0
               rfl
  have hE:vz l=x1:=K4 l k1 t1 f1 x1 n1 (by rw [List.getLast?_eq_getElem?,hk,gy];exact hq1);rw [hF,hE];replace c0:W.cell? ⟨gk,2,none⟩=some (.int .i64 f0):=c0;replace c1:W.cell? ⟨gk,k*5+3,none⟩=some (.int .i64 x1):=c1;obtain ⟨n,hn⟩:∃ n,l.length=n:=⟨_,rfl⟩;rw [hn] at hk hl ⊢
  have hk0:(0:Int)≤(k:Int):=by omega
  have hkn:(k:Int)<(n:Int):=by omega
  have hkn':k<n:=by omega
  have hpos:0<n:=by omega
  have hne:((n:Int)==0)=false:=by simp;omega
  have hi1:IntKind.i64.wrap ((n:Int) - 1)=(k:Int):=(bg _ (by omega)).trans (by omega);clear bY hp hq0 hq1 e0 e1 hF hE hn hk h0
  go_enter Tryz.func138,Tryz.ntmps138
  go_upto_region 3 with fail
  go_quiet (fail)
  go_wp2_with fail
  go_ret2
  exact ⟨rfl,_,rfl⟩
theorem nT.XN {W:World} {tv ov:Value} {bs:List (Option Nat)} {vs xs:List Value} (h:nT d L size lv s O tv ov bs vs xs W) {j:Nat} (hj:j≤L.length):∃ g off cap n,n=L.length+1∧g<W.heap.size∧W.cell? ⟨d,0,none⟩=some (.slice (some ⟨g,off,none⟩) n cap)∧W.cell? ⟨d,1,none⟩=some (.int .i64 s.i) ∧
  W.cell? ⟨g,off+j*4+3,none⟩=some (.int .i64 (tok L size j).e):=by
 obtain ⟨g,off,cap,rfl,h2,h3⟩:=h.words
 have hl:j<(L++[sV size]).length:=by simp;omega
 have ht:(L++[sV size])[j]=tok L size j:=by
  by_cases h1:j<L.length
  ·rw [mI size h1,List.getElem_append_left h1]
  ·rw [qF size h1,List.getElem_append_right (by omega)];simp [sV]
 have h4:=xM j h3 hl;rw [ht] at h4;have hb:=h.blk
 exact ⟨g,off,cap,L.length+1,rfl,h2.1,by simp [World.cell?,hb],by simp [World.cell?,hb],h4.2.2.2⟩
end
end K
end Go.Proofs.YtojoahlpgmnbnaaGreatDoor
