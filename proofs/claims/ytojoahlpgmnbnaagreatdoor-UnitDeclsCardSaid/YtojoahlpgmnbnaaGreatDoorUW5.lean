/- What the claim needs of the texts KTop, KTop2, KPop. -/
import Derived.Test.YtojoahlpgmnbnaaGreatDoorUWOp
import Derived.Test.YtojoahlpgmnbnaaGreatDoorUW4
import Derived.Laws.OwnMore
set_option maxRecDepth 20000
set_option maxHeartbeats 16000000
namespace Go.Proofs.YtojoahlpgmnbnaaGreatDoor
namespace K
open Go.RowKit
open Go.Lib hiding intOf
open U S T
section
variable {d:Nat} {L:List bn} {size:Nat} {lv:Value} {s:St} {O:Nat→Prop}
theorem zZ {W:World} {B size n g c:Nat} {e:TypeId} {xs ys:List Value} (h:W.ownsRow B e size (.slice (some ⟨g,0,none⟩) (n+1) c) (n+1) (xs++ys)) (hx:xs.length=n*size):W.ownsRow B e size (.slice (some ⟨g,0,none⟩) n c) n xs:=by
 refine ⟨hx,?_⟩
 rcases h.2 with ⟨h1,_⟩|⟨g',cap,cur,hv,h2,h3,h4,h5,h6,h7⟩
 ·cases h1
 ·cases hv
  refine .inr ⟨g,c,cur,rfl,h2,h3,by omega,h5,h6,?_⟩
  have h8:cur.toList.take (n*size)=(cur.toList.take ((n+1)*size)).take (n*size):=by
   rw [List.take_take,Nat.min_eq_left (Nat.mul_le_mul_right _ (dY n))]
  rw [h8,h7,List.take_append_of_le_length (by omega),bX (by omega)]
theorem M6 (o:Open) (kv:Value):(six o kv).length=6:=rfl
structure nR (d:Nat) (O:Nat→Prop) (o:Open) (r:List Open) (ov:Value) (bs:List (Option Nat)) (xs:List Value) (W:World) (g c:Nat) (kv:Value) (ks lT:List Value) (o8:List (Option Nat)):Prop where
 hov:ov=.slice (some ⟨g,0,none⟩) (r.length+1) c
 hxs:xs=lT++six o kv
 hbs:bs=kv.ownBlock :: o8
 own:W.ownsRow 0 49 5 kv o.kids.length ks
 parts:aP W (Fr O W) o.kids ks
 rest:gI O W r lT o8
 len:lT.length=r.length*6
 cell:∀ j u,(six o kv)[j]?=some u→W.cell? ⟨g,r.length*6+j,none⟩=some u
 frozen:∀ j,W.frozen? ⟨g,j,none⟩=false
 ne:g≠d
 lt:g<W.heap.size
 ty:Ty W g 128
 apart:(∀ k,kv.ownBlock=some k→some k ∉ o8)∧Apart o8
theorem lC {W:World} {tv ov:Value} {bs:List (Option Nat)} {us xs:List Value} {o:Open} {r:List Open} (hM:oh d L size lv s O tv ov bs us xs W) (hs:s.opn=o :: r):∃ g c kv ks lT o8,nR d O o r ov bs xs W g c kv ks lT o8:=by
 have ho:=hM.opn;have hR:=hM.qB;have ha:=hM.apart;rw [hs] at ho hR;obtain ⟨kv,ks,lT,o8,rfl,rfl,h3,h4,h5⟩:=ho;obtain ⟨g,c,rfl,_,hgl⟩:=hR.form (dW _)
 have hlen:lT.length=r.length*6:=by have:=hR.1;rw [aO,M6,aH] at this;omega
 have hty:Ty W g 128:=cZ hR rfl
 refine ⟨g,c,kv,ks,lT,o8,rfl,rfl,rfl,h3,h4,h5,hlen,fun j u hj=>?_,fun j=>hR.frozenAt j,fun e=>?_,hgl,hty,ha⟩
 ·have hj6:j<6:=by rw [← M6 o kv];exact (aL.1 hj).1
  rw [hR.cellAt (r.length*6+j) (by rw [aH];omega),aI (by omega),show r.length*6+j - lT.length=j by omega]
  exact hj
 ·rw [e] at hty;exact absurd (hty.one ⟨_,_,hM.blk⟩) (by decide)
theorem Gy {W:World} {tv ov kv kv':Value} {bs o8:List (Option Nat)} {us xs lT ks ks':List Value} {o o':Open} {r:List Open} {g c:Nat} (hM:oh d L size lv s O tv ov bs us xs W) (hs:s.opn=o :: r) (hT:nR d O o r ov bs xs W g c kv ks lT o8)
  (j:Nat) (hj:j<6) (v:Value) (h6:six o' kv'=(six o kv).set j v) (N6:W.ownsRow 0 49 5 kv' o'.kids.length ks') (hks:aP W (Fr O W) o'.kids ks') (fu:kv'.ownBlock=kv.ownBlock) :
  oh d L size lv { s with opn:=o' :: r } O tv ov bs us (lT++six o' kv') (W.setCell ⟨g,r.length*6+j,none⟩ v)∧bN O O W (W.setCell ⟨g,r.length*6+j,none⟩ v):=by
 have hOg:O g:=(hM.own g).2 (.inr (.inr (.inl (by rw [hT.hov];rfl))))
 have hset:∀ k,k≠g→(W.setCell ⟨g,r.length*6+j,none⟩ v).heap[k]?=W.heap[k]?:=fun k hk=>aj _ _ _ _ hk
 have hS:bN O O W (W.setCell ⟨g,r.length*6+j,none⟩ v):=⟨rfl,rfl,rfl,by simp,fun _ h=>.inl h,fun k _ hO=>hset k (fun e=>hO (e ▸ hOg))⟩
 have ne:∀ {k:Nat} {t:TypeId},Ty W k t→t≠128→k≠g:=fun h1 h2 e=>by rw [e] at h1;exact h2 (h1.one hT.ty)
 have hR:=hM.qB;rw [hs,hT.hov,hT.hxs] at hR;have hst:=(hR.stored (r.length*6+j) v).1
 have aaQ:(lT++six o kv).set (r.length*6+j) v=lT++six o' kv':=by
  rw [h6,fo _ _ (by rw [hT.len];omega),show r.length*6+j - lT.length=j by rw [hT.len];omega]
 rw [aaQ] at hst
 refine ⟨⟨(hset d (fun e=>hT.ne e.symm)).trans hM.blk,hM.words.stay hS,iA hM.lN (fun k hk=>hset k (ne (cZ hM.lN hk) (by decide))),hM.todo.stay hS,by rw [hT.hov];exact hst,
  ⟨kv',ks',lT,o8,rfl,by rw [hT.hbs,fu],iA N6 (fun k hk=>hset k (ne (cZ N6 hk) (by decide))),lQ hS hks,gI.stay hS hT.rest (fun k hk=>hset k (ne (oC hT.rest hk) (by decide)))⟩,hM.apart,hM.own⟩,hS⟩
theorem y7 {W:World} {tv ov kv:Value} {bs o8:List (Option Nat)} {us xs lT ks:List Value} {o:Open} {r:List Open} {g c:Nat} (hM:oh d L size lv s O tv ov bs us xs W) (hs:s.opn=o :: r) (hT:nR d O o r ov bs xs W g c kv ks lT o8) (t:By) (v:ByteArray) (hv:aX t=v) :
  oh d L size lv { s with opn:={ o with t:=t } :: r } O tv ov bs us (lT++six { o with t:=t } kv) (W.setCell ⟨g,r.length*6+1,none⟩ (.string v))∧bN O O W (W.setCell ⟨g,r.length*6+1,none⟩ (.string v)):=by
 subst hv
 exact Gy hM hs hT 1 (by decide) _ rfl hT.own hT.parts rfl
theorem vY {W:World} {tv ov kv:Value} {bs o8:List (Option Nat)} {us xs lT ks:List Value} {o:Open} {r:List Open} {g c:Nat} (hM:oh d L size lv s O tv ov bs us xs W) (hs:s.opn=o :: r) (hT:nR d O o r ov bs xs W g c kv ks lT o8) (k:By) (v:ByteArray) (hv:aX k=v) :
  oh d L size lv { s with opn:={ o with k:=k } :: r } O tv ov bs us (lT++six { o with k:=k } kv) (W.setCell ⟨g,r.length*6,none⟩ (.string v))∧bN O O W (W.setCell ⟨g,r.length*6,none⟩ (.string v)):=by
 subst hv
 exact Gy hM hs hT 0 (by decide) _ rfl hT.own hT.parts rfl
theorem kV {W:World} {tv ov kv:Value} {bs o8:List (Option Nat)} {us xs lT ks:List Value} {o:Open} {r:List Open} {g c:Nat} (hM:oh d L size lv s O tv ov bs us xs W) (hT:nR d O o r ov bs xs W g c kv ks lT o8) (hr:r.length≤1000000) {W':World} (hb:Below W.heap.size W W') :
  Calls Tryz.prog 104 #[ptr d] W' fun e W2=>e=.returned (.pointer (some ⟨g,r.length*6,none⟩))∧∃ m,W2=W'.drewN m:=by
 have hdl:d<W.heap.size:=(af.1 hM.blk).1;have h:=hM.blk;rw [hT.hov] at h
 exact Uw g (r.length+1) r.length c rfl (by omega) ((hb.cell (p:=⟨d,3,none⟩) hdl).trans (by simp [World.cell?,h]))
theorem oh.below {W W':World} {tv ov:Value} {bs:List (Option Nat)} {vs xs:List Value} (h:oh d L size lv s O tv ov bs vs xs W) (hb:Below W.heap.size W W'):oh d L size lv s O tv ov bs vs xs W':=by
 have hs:bN O O W W':=.of_below hb
 exact ⟨(hb.block d (af.1 h.blk).1).trans h.blk,h.words.stay hs,aR h.lN hb,h.todo.stay hs,aR h.qB hb,
  gI.stay hs h.opn (fun g hg=>hb.block g (h.lt g ((h.own g).2 (.inr (.inr (.inr hg)))))),h.apart,h.own⟩
theorem jY (W:World) (m:Nat):Below W.heap.size W (W.drewN m):=⟨rfl,rfl,rfl,ae _,fun _ _=>rfl⟩
theorem nR.drewN {W:World} {ov kv:Value} {bs o8:List (Option Nat)} {xs lT ks:List Value} {o:Open} {r:List Open} {g c:Nat} (h:nR d O o r ov bs xs W g c kv ks lT o8) (m:Nat):nR d O o r ov bs xs (W.drewN m) g c kv ks lT o8 :=
 ⟨h.hov,h.hxs,h.hbs,h.own,lQ (W:=W) (W':=W.drewN m) (bN.of_below (jY W m)) h.parts,gI.stay (W:=W) (W':=W.drewN m) (bN.of_below (jY W m)) h.rest (fun _ _=>rfl),h.len,h.cell,h.frozen,h.ne,h.lt,h.ty,h.apart⟩
theorem XZ {W:World} (hM:Mem d L size lv s O W) (hs:Small L s) (ho:∃ o r,s.opn=o :: r):Calls Tryz.prog 119 #[ptr d] W (Does d L size lv s.i O W (bD L size .name s)):=by
 obtain ⟨tw,tf,te,y,_,hW,hy,c1⟩:=jh hM hs.i;obtain ⟨o,r,ho⟩:=ho
 have hrl:r.length≤1000000:=by have:=hs.opn;rw [ho,aH] at this;omega
 have hfl:=fun X=>Ez (.int .i64 tw) (.string y) (.int .i64 tf) (.int .i64 te) X
 have aio:=fun X=>Jb (.int .i64 tw) (.string y) (.int .i64 tf) (.int .i64 te) X
 simp only [bD,hW];obtain ⟨b0,h0⟩:∃ b,(tw==0)=b:=⟨_,rfl⟩;rw [h0]
 have hys:aX y.toList=y:=by unfold aX;rw [bg]
 cases b0 with
 | true =>
  rw [au rfl,ho,hy];clear hy
  go_enter Tryz.func119,Tryz.ntmps119
  go_wp2_with fail
  refine c1.mono ?_;rintro e v0 ⟨rfl,hb0⟩;dsimp only;have hM0:=hM.below hb0;obtain ⟨tw2,tf2,te2,y2,_,hW2,_,c2⟩:=jh hM0 hs.i
  have N9:tw2=tw:=by have h1:=hW2 tw;rw [hW tw] at h1;simpa using h1.symm
  subst N9
  have aex:=fun X=>Jb (.int .i64 tw2) (.string y2) (.int .i64 tf2) (.int .i64 te2) X
  clear hW hW2
  go_wp2_with fail
  refine c2.mono ?_;rintro e v1 ⟨rfl,hb1⟩;dsimp only;have hM1:=hM0.below hb1
  go_wp2_with fail
  refine (M4 hM1 (aJ hs.i hs.len)).mono ?_;rintro e v2 ⟨rfl,hM2,hS2⟩;dsimp only;obtain ⟨tv,ov,bs,us,xs,hX⟩:=hM2;obtain ⟨g,c,kv,ks,lT,o8,hT⟩:=lC hX ho;have cT:=kV hX hT hrl (ah _ _)
  go_wp2_with fail
  refine cT.mono ?_;rintro e v3 ⟨rfl,mm,rfl⟩;dsimp only;have hX3:=hX.below (jY v2 mm);have P6:=hT.drewN mm;obtain ⟨q1,q2⟩:=y7 hX3 ho P6 y.toList y hys;have k1:=P6.cell 1 _ rfl;have f1:=P6.frozen (r.length*6+1);have H1:=hid q1;have H2:=hid (((bN.of_below hb0).trans (bN.of_below hb1)).trans (hS2.trans ((bN.of_below (jY v2 mm)).trans q2)));clear q1 q2 hX hT hX3 P6 hM0 hM1 hS2 hb0 hb1
  go_wp2_with fail
  first|go_end0|refine aA (aD rfl _ _ _) rfl ?_
  exact ⟨rfl,_,⟨_,_,_,_,_,H1.out⟩,H2.out⟩
 | false =>
  rw [ai (by decide)]
  go_enter Tryz.func119,Tryz.ntmps119
  go_wp2_with fail
  refine c1.mono ?_;rintro e v0 ⟨rfl,hb0⟩;dsimp only;have hM0:=hM.below hb0;obtain ⟨tw2,tf2,te2,y2,_,hW2,_,c2⟩:=jh hM0 hs.i
  have N9:tw2=tw:=by have h1:=hW2 tw;rw [hW tw] at h1;simpa using h1.symm
  subst N9
  have aex:=fun X=>Jb (.int .i64 tw2) (.string y2) (.int .i64 tf2) (.int .i64 te2) X
  clear hW hW2
  go_wp2_with fail
  refine c2.mono ?_;rintro e v1 ⟨rfl,hb1⟩;dsimp only;have hM1:=hM0.below hb1
  go_wp2_with fail
  refine (Jh hM1 hs.i).mono ?_;rintro e v2 ⟨rfl,hb2⟩;dsimp only;have Lc:=hb0.trans (hb1.mono hb0.size)
  exact ⟨rfl,rfl,Lc.trans (hb2.mono Lc.size)⟩
end
section
variable {d:Nat} {L:List bn} {size:Nat} {lv:Value} {s:St} {O:Nat→Prop}
theorem nR.below {W W':World} {ov kv:Value} {bs o8:List (Option Nat)} {xs lT ks:List Value} {o:Open} {r:List Open} {g c:Nat} (h:nR d O o r ov bs xs W g c kv ks lT o8) (hb:Below W.heap.size W W'):nR d O o r ov bs xs W' g c kv ks lT o8:=by
 have hg:=hb.block g h.lt;obtain ⟨cs,fr,ht⟩:=h.ty
 exact ⟨h.hov,h.hxs,h.hbs,aR h.own hb,lQ (W:=W) (W':=W') (bN.of_below hb) h.parts,gI.stay (W:=W) (W':=W') (bN.of_below hb) h.rest (fun k hk=>hb.block k (tu h.rest hk)),h.len,
  fun j u hj=>(hb.cell (p:=⟨g,_,none⟩) h.lt).trans (h.cell j u hj),fun j=>by have h1:=h.frozen j;simp only [World.frozen?] at h1 ⊢;rw [hg];exact h1,h.ne,aC h.lt hb.size,⟨cs,fr,hg.trans ht⟩,h.apart⟩
theorem Gz (y:ByteArray):aX y.toList=y:=by unfold aX;rw [bg]
theorem CZ (t:By):∃ y:ByteArray,aX t=y∧t=y.toList:=⟨aX t,rfl,by unfold aX;rw [bg]⟩
theorem X0 {W:World} (hM:Mem d L size lv s O W) (hs:Small L s) (ho:∃ o r,s.opn=o :: r) (hi:s.i<L.length):Calls Tryz.prog 154 #[ptr d] W (Does d L size lv s.i O W (bD L size .text s)):=by
 obtain ⟨o,r,ho⟩:=ho
 have hrl:r.length≤1000000:=by have:=hs.opn;rw [ho,aH] at this;omega
 simp only [bD];obtain ⟨_,_,_,y0,_,_,hy0,_⟩:=jh hM hs.i;rw [au hi,ho,hy0];obtain ⟨tv,ov,bs,us,xs,hX⟩:=id hM;obtain ⟨g,c,kv,ks,lT,o8,hT⟩:=lC hX ho;have cT:=kV hX hT hrl (ah _ _)
 go_enter Tryz.func154,Tryz.ntmps154
 go_wp2_with fail
 refine cT.mono ?_;rintro e v0 ⟨rfl,m0,rfl⟩;dsimp only;obtain ⟨tw,tf,te,y,_,_,hy,c1⟩:=jh (hM.below (jY W m0)) hs.i
 obtain rfl:y0=y:=by rw [← Gz y,← hy,hy0,Gz]
 clear hy hy0
 have hfl:=fun X=>Ez (.int .i64 tw) (.string y0) (.int .i64 tf) (.int .i64 te) X
 go_wp2_with fail
 refine c1.mono ?_;rintro e v1 ⟨rfl,hb1⟩;dsimp only;have Lc:Below W.heap.size W v1:=(jY W m0).trans hb1;have hX1:=hX.below Lc;have hT1:=hT.below Lc;obtain ⟨q1,q2⟩:=y7 hX1 ho hT1 y0.toList y0 (Gz y0);have k1:=hT1.cell 1 _ rfl;have f1:=hT1.frozen (r.length*6+1);have hM2:Mem d L size lv _ O _:=⟨_,_,_,_,_,q1⟩;obtain ⟨q3,q4,k3,f3⟩:=hM2.next ((s.i:Int)+1) (by dsimp only;omega);have e0:IntKind.i64.wrap ((s.i:Int)+1)=(s.i:Int)+1:=bq _ (by have:=hs.len;omega);have H3:=hid q3;have H4:=hid (((bN.of_below Lc).trans q2).trans q4);dsimp only at k3;clear q1 q2 q3 q4 hM2 hX1 hT1 hX hT Lc hb1
 go_wp2_with fail
 first|go_end0|refine aA (aD rfl _ _ _) rfl ?_
 exact ⟨rfl,O,H3.out,H4.out⟩
theorem Ld {W:World} (hM:Mem d L size lv s O W) (hs:Small L s) (ho:∃ o r,s.opn=o :: r):Calls Tryz.prog 147 #[ptr d] W (Does d L size lv s.i O W (bD L size .assigned s)):=by
 obtain ⟨o,r,ho⟩:=ho
 have hrl:r.length≤1000000:=by have:=hs.opn;rw [ho,aH] at this;omega
 obtain ⟨tw,tf,te,y,hP,_,QN,c1⟩:=jh hM hs.i
 have hfl:=fun X=>Ez (.int .i64 tw) (.string y) (.int .i64 tf) (.int .i64 te) X
 have hlt:¬ y.toList=[]→s.i+1≤L.length:=fun hne=>by
  rcases dV s.i L.length with h|h
  ·exact h
  ·exact absurd (by rw [← QN,qL size (by omega)]) hne
 simp only [bD,hP,ho];clear hP QN;obtain ⟨b0,h⟩:∃ b,(y.toList==[61])=b:=⟨_,rfl⟩
 cases b0 with
 | true =>
  have Le:=hlt (by intro hn;rw [hn] at h;cases h);clear hlt;rw [au (show (y.toList==[61])=true from h)]
  go_enter Tryz.func147,Tryz.ntmps147
  go_wp2_with fail
  refine c1.mono ?_;rintro e v0 ⟨rfl,hb0⟩;dsimp only;obtain ⟨tv,ov,bs,us,xs,hX⟩:=hM.below hb0;obtain ⟨g,c,kv,ks,lT,o8,hT⟩:=lC hX ho;have cT:=kV hX hT hrl (ah _ _)
  go_wp2_with fail
  refine cT.mono ?_;rintro e v1 ⟨rfl,m0,rfl⟩;dsimp only;have hX1:=hX.below (jY v0 m0);have hT1:=hT.drewN m0;obtain ⟨q1,q2⟩:=vY hX1 ho hT1 pU ⟨#[97,115,115,105,103,110]⟩ rfl;have k1:=hT1.cell 0 _ rfl;rw [bV] at k1;have f1:=hT1.frozen (r.length*6);have hM2:Mem d L size lv _ O _:=⟨_,_,_,_,_,q1⟩;obtain ⟨q3,q4,k3,f3⟩:=hM2.next ((s.i:Int)+1) (by dsimp only;omega);have e0:IntKind.i64.wrap ((s.i:Int)+1)=(s.i:Int)+1:=bq _ (by have:=hs.i;have:=hs.len;omega);have H3:=hid q3;have H4:=hid (((bN.of_below hb0).trans (bN.of_below (jY v0 m0))).trans (q2.trans q4));dsimp only at k3;clear q1 q2 q3 q4 hM2 hX1 hT1 hX hT hb0
  go_wp2_with fail
  refine (Gx H3.out ⟨Le,hs.len,hs.todo,by simpa [ho] using hs.opn,fun p hp=>by
   rcases bB.1 hp with rfl|hp
   ·exact hs.kids o (by rw [ho];exact bF)
   ·exact hs.kids p (by rw [ho];exact aV _ hp)⟩).mono ?_
  rintro e v9 ⟨rfl,O9,tC,tF⟩;dsimp only
  (try go_wp2_with fail)
  first|go_end0|refine aA (aD rfl _ _ _) rfl ?_
  exact ⟨rfl,O9,tC,H4.out.trans tF⟩
 | false =>
 rw [ai (show ¬ (y.toList==[61])=true by rw [show (y.toList==[61])=false from h];decide)];have h1:=h;clear h;obtain ⟨b0,h⟩:∃ b,(y.toList==[58,61])=b:=⟨_,rfl⟩
 cases b0 with
 | true =>
  have Le:=hlt (by intro hn;rw [hn] at h;cases h);clear hlt;rw [au (show (y.toList==[58,61])=true from h)]
  go_enter Tryz.func147,Tryz.ntmps147
  go_wp2_with fail
  refine c1.mono ?_;rintro e v0 ⟨rfl,hb0⟩;dsimp only;obtain ⟨tv,ov,bs,us,xs,hX⟩:=hM.below hb0;obtain ⟨g,c,kv,ks,lT,o8,hT⟩:=lC hX ho;have cT:=kV hX hT hrl (ah _ _)
  go_wp2_with fail
  refine cT.mono ?_;rintro e v1 ⟨rfl,m0,rfl⟩;dsimp only;have hX1:=hX.below (jY v0 m0);have hT1:=hT.drewN m0;obtain ⟨q1,q2⟩:=vY hX1 ho hT1 pV ⟨#[100,101,102,105,110,101]⟩ rfl;have k1:=hT1.cell 0 _ rfl;rw [bV] at k1;have f1:=hT1.frozen (r.length*6);have hM2:Mem d L size lv _ O _:=⟨_,_,_,_,_,q1⟩;obtain ⟨q3,q4,k3,f3⟩:=hM2.next ((s.i:Int)+1) (by dsimp only;omega);have e0:IntKind.i64.wrap ((s.i:Int)+1)=(s.i:Int)+1:=bq _ (by have:=hs.i;have:=hs.len;omega);have H3:=hid q3;have H4:=hid (((bN.of_below hb0).trans (bN.of_below (jY v0 m0))).trans (q2.trans q4));dsimp only at k3;clear q1 q2 q3 q4 hM2 hX1 hT1 hX hT hb0
  go_wp2_with fail
  refine (Gx H3.out ⟨Le,hs.len,hs.todo,by simpa [ho] using hs.opn,fun p hp=>by
   rcases bB.1 hp with rfl|hp
   ·exact hs.kids o (by rw [ho];exact bF)
   ·exact hs.kids p (by rw [ho];exact aV _ hp)⟩).mono ?_
  rintro e v9 ⟨rfl,O9,tC,tF⟩;dsimp only
  (try go_wp2_with fail)
  first|go_end0|refine aA (aD rfl _ _ _) rfl ?_
  exact ⟨rfl,O9,tC,H4.out.trans tF⟩
 | false =>
 rw [ai (show ¬ (y.toList==[58,61])=true by rw [show (y.toList==[58,61])=false from h];decide)]
 go_enter Tryz.func147,Tryz.ntmps147
 go_wp2_with fail
 refine c1.mono ?_;rintro e v0 ⟨rfl,hb0⟩;dsimp only;have hM0:=hM.below hb0
 go_wp2_with fail
 first|go_end0|refine aA (aD rfl _ _ _) rfl ?_
 exact ⟨rfl,O,hM0,.of_below hb0⟩
theorem QO {W:World} (hM:Mem d L size lv s O W) (hs:Small L s) (ho:∃ o r,s.opn=o :: r):Calls Tryz.prog 159 #[ptr d] W (Does d L size lv s.i O W (bD L size .called s)):=by
 obtain ⟨o,r,ho⟩:=ho
 have hrl:r.length≤1000000:=by have:=hs.opn;rw [ho,aH] at this;omega
 have oD:=oD;have c1:=iJ hM hs.i [40];simp only [bD]
 cases h0:sj L size [40] s.i with
 | false =>
  rw [h0] at c1;rw [ai (by decide)]
  go_enter Tryz.func159,Tryz.ntmps159
  go_wp2_with fail
  refine c1.mono ?_;rintro e v0 ⟨rfl,hb0⟩;dsimp only;have hM0:=hM.below hb0
  go_wp2_with fail
  first|go_end0|refine aA (aD rfl _ _ _) rfl ?_
  exact ⟨rfl,O,hM0,.of_below hb0⟩
 | true =>
 rw [h0] at c1;rw [au rfl,ho];dsimp only;have e0:IntKind.i64.wrap ((s.i:Int)+1)=(s.i:Int)+1:=bq _ (by have:=hs.i;have:=hs.len;omega);obtain ⟨yo,hyo,QN⟩:=CZ o.t
 by_cases h1:o.t=p9
 ·rw [au h1]
  have h2:(yo.toList==[110,101,119])=true:=by rw [← QN,h1];rfl
  clear h1 QN
  go_enter Tryz.func159,Tryz.ntmps159
  go_wp2_with fail
  refine c1.mono ?_;rintro e v0 ⟨rfl,hb0⟩;dsimp only;have hM0:=hM.below hb0;obtain ⟨q3,q4,k3,f3⟩:=hM0.next ((s.i:Int)+1) (by omega);have H3:=hid q3;have H4:=hid ((bN.of_below hb0).trans q4);clear q3 q4 hM0 hb0
  go_wp2_with fail
  obtain ⟨tv,ov,bs,us,xs,hX⟩:=H3.out;obtain ⟨g,c,kv,ks,lT,o8,hT⟩:=lC hX ho;have cT:=kV hX hT hrl (ah _ _);clear k3 f3;refine cT.mono ?_;rintro e v1 ⟨rfl,m0,rfl⟩;dsimp only;generalize v0.setCell ⟨d,1,none⟩ (.int .i64 ((s.i:Int)+1))=w1 at H3 H4 hX hT cT ⊢;have hX1:=hX.below (jY w1 m0);have hT1:=hT.drewN m0;have k0:=hT1.cell 0 _ rfl;rw [bV] at k0;have f0:=hT1.frozen (r.length*6);have k1:=hT1.cell 1 _ rfl;rw [hyo] at k1;have f1:=hT1.frozen (r.length*6+1);obtain ⟨q1,q2⟩:=vY hX1 ho hT1 p9 ⟨#[110,101,119]⟩ rfl;have ho2:({ s with i:=s.i+1,opn:={ o with k:=p9 } :: r }:St).opn={ o with k:=p9 } :: r:=rfl;obtain ⟨g2,c2,kv2,ks2,us2,bs2,KA⟩:=lC q1 ho2
  have hgg:g2=g∧c2=c:=by have h1:=KA.hov;rw [hT1.hov] at h1;simp only [dh,bS,Addr.mk.injEq,and_true,true_and] at h1;exact ⟨h1.1.symm,h1.2.symm⟩
  obtain ⟨rfl,rfl⟩:=hgg;obtain ⟨q3,q4⟩:=y7 q1 ho2 KA [] ⟨#[]⟩ rfl;have k2:=KA.cell 1 _ rfl;have f2:=KA.frozen (r.length*6+1);rw [show aX ({ o with k:=p9 }:Open).t=yo from hyo] at k2;have hM2:Mem d L size lv _ O _:=⟨_,_,_,_,_,q3⟩;have hS2:=(H4.out.trans (bN.of_below (jY w1 m0))).trans (q2.trans q4);clear cT
  go_wp2_with fail
  refine (dZ hM2 [41]).mono ?_;rintro e v21 ⟨WJ,WK,rfl,GA,GB,C4⟩;dsimp only;have GD:=hM2.below C4
  go_wp2_with fail
  refine (dH GD [.m .typeOf,.word [41]] [.func (.func 136) #[ptr d] #[],.func (.func 131) #[] #[ptr WJ,ptr WK]] 2 rfl ⟨_,_,rfl,rfl,⟨_,_,rfl,⟨WJ,WK,rfl,GA,GB⟩,rfl⟩⟩ (by decide) hs.todo).mono ?_;rintro e v22 ⟨rfl,O22,QP,aey⟩;dsimp only
  (try go_wp2_with fail)
  first|go_end0|refine aA (aD rfl _ _ _) rfl ?_
  exact ⟨rfl,O22,QP,((hS2.trans (bN.of_below C4)).trans aey)⟩
 ·rw [ai h1]
  by_cases h3:o.t=jL
  focus
   rw [au h3]
   have h2:(yo.toList==[110,101,119])=false:=by rw [← QN,h3];rfl
   have h4:(yo.toList==[109,97,107,101])=true:=by rw [← QN,h3];rfl
   clear h1 h3 QN
   go_enter Tryz.func159,Tryz.ntmps159
   go_wp2_with fail
   refine c1.mono ?_;rintro e v0 ⟨rfl,hb0⟩;dsimp only;have hM0:=hM.below hb0;obtain ⟨q3,q4,k3,f3⟩:=hM0.next ((s.i:Int)+1) (by omega);have H3:=hid q3;have H4:=hid ((bN.of_below hb0).trans q4);clear q3 q4 hM0 hb0
   go_wp2_with fail
   obtain ⟨tv,ov,bs,us,xs,hX⟩:=H3.out;obtain ⟨g,c,kv,ks,lT,o8,hT⟩:=lC hX ho;have cT:=kV hX hT hrl (ah _ _);clear k3 f3;refine cT.mono ?_;rintro e v1 ⟨rfl,m0,rfl⟩;dsimp only;generalize v0.setCell ⟨d,1,none⟩ (.int .i64 ((s.i:Int)+1))=w1 at H3 H4 hX hT cT ⊢;have hX1:=hX.below (jY w1 m0);have hT1:=hT.drewN m0;have k0:=hT1.cell 0 _ rfl;rw [bV] at k0;have f0:=hT1.frozen (r.length*6);have k1:=hT1.cell 1 _ rfl;rw [hyo] at k1;have f1:=hT1.frozen (r.length*6+1);obtain ⟨q1,q2⟩:=vY hX1 ho hT1 jL ⟨#[109,97,107,101]⟩ rfl;have ho2:({ s with i:=s.i+1,opn:={ o with k:=jL } :: r }:St).opn={ o with k:=jL } :: r:=rfl;obtain ⟨g2,c2,kv2,ks2,us2,bs2,KA⟩:=lC q1 ho2
   have hgg:g2=g∧c2=c:=by have h1:=KA.hov;rw [hT1.hov] at h1;simp only [dh,bS,Addr.mk.injEq,and_true,true_and] at h1;exact ⟨h1.1.symm,h1.2.symm⟩
   obtain ⟨rfl,rfl⟩:=hgg;obtain ⟨q3,q4⟩:=y7 q1 ho2 KA [] ⟨#[]⟩ rfl;have k2:=KA.cell 1 _ rfl;have f2:=KA.frozen (r.length*6+1);rw [show aX ({ o with k:=jL }:Open).t=yo from hyo] at k2;have hM2:Mem d L size lv _ O _:=⟨_,_,_,_,_,q3⟩;have hS2:=(H4.out.trans (bN.of_below (jY w1 m0))).trans (q2.trans q4);clear cT
   go_wp2_with fail
   refine (dZ hM2 [44]).mono ?_;rintro e v21 ⟨WJ,WK,rfl,GA,GB,C4⟩;dsimp only;have GD:=hM2.below C4
   go_wp2_with fail
   refine (dZ GD [41]).mono ?_;rintro e v22 ⟨p22,q22,rfl,Ya,Yb,Aa⟩;dsimp only;replace GA:=GA.below Aa;replace GB:=GB.below Aa;have QP:=GD.below Aa
   go_wp2_with fail
   refine (dH QP [.m .typeOf,.word [44],.m .expr,.word [41]] [.func (.func 136) #[ptr d] #[],.func (.func 131) #[] #[ptr WJ,ptr WK],.func (.func 146) #[ptr d] #[],.func (.func 131) #[] #[ptr p22,ptr q22]] 4 rfl ⟨_,_,rfl,rfl,⟨_,_,rfl,⟨WJ,WK,rfl,GA,GB⟩,⟨_,_,rfl,rfl,⟨_,_,rfl,⟨p22,q22,rfl,Ya,Yb⟩,rfl⟩⟩⟩⟩ (by decide) hs.todo).mono ?_
  rotate_left
  focus
   rw [ai h3]
   have h2:(yo.toList==[110,101,119])=false:=by rw [← QN];exact dS.2 h1
   have h4:(yo.toList==[109,97,107,101])=false:=by rw [← QN];exact dS.2 h3
   clear h1 h3 QN
   go_enter Tryz.func159,Tryz.ntmps159
   go_wp2_with fail
   refine c1.mono ?_;rintro e v0 ⟨rfl,hb0⟩;dsimp only;have hM0:=hM.below hb0;obtain ⟨q3,q4,k3,f3⟩:=hM0.next ((s.i:Int)+1) (by omega);have H3:=hid q3;have H4:=hid ((bN.of_below hb0).trans q4);clear q3 q4 hM0 hb0
   go_wp2_with fail
   obtain ⟨tv,ov,bs,us,xs,hX⟩:=H3.out;obtain ⟨g,c,kv,ks,lT,o8,hT⟩:=lC hX ho;have cT:=kV hX hT hrl (ah _ _);clear k3 f3;refine cT.mono ?_;rintro e v1 ⟨rfl,m0,rfl⟩;dsimp only;generalize v0.setCell ⟨d,1,none⟩ (.int .i64 ((s.i:Int)+1))=w1 at H3 H4 hX hT cT ⊢;have hX1:=hX.below (jY w1 m0);have hT1:=hT.drewN m0;have k0:=hT1.cell 0 _ rfl;rw [bV] at k0;have f0:=hT1.frozen (r.length*6);have k1:=hT1.cell 1 _ rfl;rw [hyo] at k1;have f1:=hT1.frozen (r.length*6+1);obtain ⟨q1,q2⟩:=vY hX1 ho hT1 mW ⟨#[99,97,108,108]⟩ rfl;have hM2:Mem d L size lv _ O _:=⟨_,_,_,_,_,q1⟩;have hS2:=(H4.out.trans (bN.of_below (jY w1 m0))).trans q2;clear cT
   go_wp2_with fail
   refine (Bb hM2 146).mono ?_;rintro e v21 ⟨WJ,WK,rfl,GA,GB,C4⟩;dsimp only;have GD:=hM2.below C4
   go_wp2_with fail
   refine (dZ GD [41]).mono ?_;rintro e v22 ⟨p22,q22,rfl,Ya,Yb,Aa⟩;dsimp only;replace GA:=GA.below Aa;replace GB:=GB.below Aa;have QP:=GD.below Aa
   go_wp2_with fail
   refine (dH QP [.jD .expr,.word [41]] [.func (.func 142) #[] #[ptr WJ,ptr WK],.func (.func 131) #[] #[ptr p22,ptr q22]] 2 rfl ⟨_,_,rfl,⟨WJ,WK,rfl,GA,GB⟩,⟨_,_,rfl,⟨p22,q22,rfl,Ya,Yb⟩,rfl⟩⟩ (by decide) hs.todo).mono ?_
  rotate_left
  all_goals
   rintro e v23 ⟨rfl,O23,aez,aeA⟩;dsimp only
   (try go_wp2_with fail)
   first|go_end0|refine aA (aD rfl _ _ _) rfl ?_
   exact ⟨rfl,O23,aez,(((hS2.trans (bN.of_below C4)).trans (bN.of_below Aa)).trans aeA)⟩
end
section
variable {d:Nat} {L:List bn} {size:Nat} {lv:Value} {s:St} {O:Nat→Prop}
theorem mZ {W:World} {R:Nat→Prop} {kv:Value} {ks:List Value} {l:List Pt} (h:W.ownsRow 0 49 5 kv l.length ks) (hp:aP W R l ks) (hR:∀ k,kv.ownBlock=some k→R k) (k t:By) (f e:Int):aU W R (.mk k t f e l) kv:=by
 rcases h.2 with ⟨rfl,h0⟩|⟨g,cap,cur,rfl,_,h3,h4,_,h6,h7⟩
 ·have:l=[]:=dF.1 h0
  subst this
  exact ⟨none,0,rfl,ae _,.inl rfl⟩
 ·refine ⟨_,cap,rfl,h4,.inr ⟨g,0,ks,rfl,hR g rfl,fun j u hj=>?_,hp⟩⟩
  rw [bA,h.cellAt j (by rw [← h.1];exact (aL.1 hj).1)]
  exact hj
theorem UG {W:World} {tv ov kv:Value} {bs o8:List (Option Nat)} {us xs lT ks:List Value} {o a:Open} {r:List Open} {g c:Nat} (hM:oh d L size lv s O tv ov bs us xs W) (hs:s.opn=o :: a :: r) (hT:nR d O o (a :: r) ov bs xs W g c kv ks lT o8) :
  ∃ O',oh d L size lv { s with opn:=a :: r } O' tv (.slice (some ⟨g,0,none⟩) (r.length+1) c) o8 us lT (W.setCell ⟨d,3,none⟩ (.slice (some ⟨g,0,none⟩) (r.length+1) c))∧bN O O' W (W.setCell ⟨d,3,none⟩ (.slice (some ⟨g,0,none⟩) (r.length+1) c)) ∧
   (W.setCell ⟨d,3,none⟩ (.slice (some ⟨g,0,none⟩) (r.length+1) c)).ownsRow 0 49 5 kv o.kids.length ks∧aP (W.setCell ⟨d,3,none⟩ (.slice (some ⟨g,0,none⟩) (r.length+1) c)) (Fr O' (W.setCell ⟨d,3,none⟩ (.slice (some ⟨g,0,none⟩) (r.length+1) c))) o.kids ks ∧
   (∀ k,kv.ownBlock=some k→Fr O' (W.setCell ⟨d,3,none⟩ (.slice (some ⟨g,0,none⟩) (r.length+1) c)) k)∧W.cell? ⟨d,3,none⟩=some ov∧W.frozen? ⟨d,3,none⟩=false:=by
 have hb:=hM.blk;have hdl:d<W.heap.size:=(af.1 hb).1;obtain ⟨W',yc⟩:∃ W',W.setCell ⟨d,3,none⟩ (.slice (some ⟨g,0,none⟩) (r.length+1) c)=W':=⟨_,rfl⟩
 have hset:∀ k,k≠d→W'.heap[k]?=W.heap[k]?:=fun k hk=>by rw [← yc];exact aj _ _ _ _ hk
 have Yc:W'.heap[d]?=some (.cells #[lv,.int .i64 s.i,tv,.slice (some ⟨g,0,none⟩) (r.length+1) c] 123 (0,0)):=by rw [← yc];exact ay hb _
 have hsz:W'.heap.size=W.heap.size:=by rw [← yc];simp
 have ne:∀ {k:Nat} {t:TypeId},Ty W k t→t≠123→k≠d:=fun h1 h2 e=>by rw [e] at h1;exact h2 (h1.one ⟨_,_,hb⟩)
 have hOd:O d:=(hM.own d).2 (.inl rfl);have hOg:O g:=(hM.own g).2 (.inr (.inr (.inl (by rw [hT.hov];rfl))));rw [yc]
 have hS:bN O (fun k=>k=d∨tv.ownBlock=some k∨(Value.slice (some ⟨g,0,none⟩) (r.length+1) c).ownBlock=some k∨some k∈o8) W W':=by
  refine ⟨by rw [← yc];rfl,by rw [← yc];rfl,by rw [← yc];rfl,by omega,?_,fun k hk hO=>hset k (fun e=>hO (e ▸ hOd))⟩;rintro k (rfl|h1|h1|h1)
  ·exact .inl hOd
  ·exact .inl ((hM.own k).2 (.inr (.inl h1)))
  ·obtain rfl:g=k:=by simpa [Value.ownBlock] using h1
   exact .inl hOg
  ·exact .inl ((hM.own k).2 (.inr (.inr (.inr (by rw [hT.hbs];exact aV _ h1)))))
 have hR:=hM.qB;rw [hs,hT.hov,hT.hxs] at hR
 have hkn:∀ k,kv.ownBlock=some k→¬ (k=d∨tv.ownBlock=some k∨(Value.slice (some ⟨g,0,none⟩) (r.length+1) c).ownBlock=some k∨some k∈o8):=by
  rintro k hk (h1|h1|h1|h1)
  ·exact ne (cZ hT.own hk) (by decide) h1
  ·exact absurd ((cZ hT.own hk).one (cZ hM.lN h1)) (by decide)
  ·obtain rfl:g=k:=by simpa [Value.ownBlock] using h1
   exact absurd ((cZ hT.own hk).one hT.ty) (by decide)
  ·exact hT.apart.1 k hk h1
 have hown':=iA hT.own (fun k hk=>hset k (ne (cZ hT.own hk) (by decide)))
 have hfr:∀ k,kv.ownBlock=some k→Fr (fun k=>k=d∨tv.ownBlock=some k∨(Value.slice (some ⟨g,0,none⟩) (r.length+1) c).ownBlock=some k∨some k∈o8) W' k:=fun k hk=>by
  obtain ⟨cs,fr,h⟩:=cZ hown' hk
  exact ⟨(af.1 h).1,hkn k hk,_,h,rfl⟩
 refine ⟨_,⟨Yc,hM.words.stay hS,iA hM.lN (fun k hk=>hset k (ne (cZ hM.lN hk) (by decide))),hM.todo.stay hS,?_,gI.stay hS hT.rest (fun k hk=>hset k (ne (oC hT.rest hk) (by decide))),hT.apart.2,fun k=>Iff.rfl⟩,hS,hown',lQ hS hT.parts,hfr,by simp [World.cell?,hb],by simp [World.frozen?,hb]⟩
 exact iA (zZ hR hT.len) (fun k hk=>hset k (fun e=>hT.ne ((bf hk).trans e)))
theorem rC {W:World} {R:Nat→Prop}:∀ {l:List Pt} {xs:List Value} {i:Nat} {q:Pt},aP W R l xs→l[i]?=some q→∃ qv,aU W R q qv∧∀ j,j<5→xs[i*5+j]?=(five q qv)[j]?
 | [],_,i,q,_,h=>by simp at h
 | p :: r,xs,0,q,⟨pv,rest,h1,h2,_⟩,h=>by
  obtain rfl:p=q:=by simpa using h
  exact ⟨pv,h2,fun j hj=>by rw [h1,Nat.zero_mul,bA,bu (by rw [eO];exact hj)]⟩
 | p :: r,xs,i+1,q,⟨pv,rest,h1,_,h3⟩,h=>by
  obtain ⟨qv,h4,h5⟩:=rC h3 (by simpa using h)
  exact ⟨qv,h4,fun j hj=>by rw [h1,aI (by rw [eO];omega),eO,show (i+1)*5+j - 5=i*5+j by omega];exact h5 j hj⟩
theorem Lf (l:List Pt) (k t:By) (f e:Int) (ks:List Pt) (h:l.getLast?=some (.mk k t f e ks)):vM l=e:=by unfold vM;rw [h]
theorem tH {W:World} {R:Nat→Prop} (l:List Pt) (kv:Value) (ks:List Value) (bP:W.ownsRow 0 49 5 kv l.length ks) (hp:aP W R l ks) (hl:l.length≤1000000) :
  Calls Tryz.prog 138 #[kv] W fun e W'=>e=.returned (.tuple #[.int .i64 (yQ l),.int .i64 (vM l)])∧∃ m,W'=W.drewN m:=by
 by_cases h0:l.length=0
 ·obtain ⟨ka,kc,rfl⟩:=eH bP
  have:l=[]:=dF.1 h0;subst this;clear bP hp
  go_enter Tryz.func138,Tryz.ntmps138
  go_wp2_with fail
  go_ret2
  exact ⟨rfl,0,rfl⟩
 ·obtain ⟨k,hk⟩:∃ k,l.length=k+1:=⟨l.length - 1,by omega⟩
  obtain ⟨gk,kc,rfl,_,_⟩:=bP.form (by omega);obtain ⟨q0,hq0⟩:∃ q,l[0]?=some q:=⟨l[0],aB (by omega)⟩;obtain ⟨q1,hq1⟩:∃ q,l[k]?=some q:=⟨l[k],aB (by omega)⟩;obtain ⟨v0,_,e0⟩:=rC hp hq0;obtain ⟨v1,_,e1⟩:=rC hp hq1
  have c0:W.cell? ⟨gk,2,none⟩=(five q0 v0)[2]?:=by rw [bP.cellAt 2 (by omega),← e0 2 (by omega)]
  have c1:W.cell? ⟨gk,k*5+3,none⟩=(five q1 v1)[3]?:=by rw [bP.cellAt (k*5+3) (by omega),← e1 3 (by omega)]
  obtain ⟨k0,t0,f0,x0,n0⟩:=q0;obtain ⟨k1,t1,f1,x1,n1⟩:=q1
  have hF:yQ l=f0:=by
   cases l with
   | nil=>simp at hq0
   | cons a b=>obtain rfl:a=_:=by simpa using hq0
               rfl
  have hE:vM l=x1:=Lf l k1 t1 f1 x1 n1 (by rw [List.getLast?_eq_getElem?,hk,gp];exact hq1);rw [hF,hE];replace c0:W.cell? ⟨gk,2,none⟩=some (.int .i64 f0):=c0;replace c1:W.cell? ⟨gk,k*5+3,none⟩=some (.int .i64 x1):=c1;obtain ⟨n,hn⟩:∃ n,l.length=n:=⟨_,rfl⟩;rw [hn] at hk hl ⊢
  have hk0:(0:Int)≤(k:Int):=by omega
  have hkn:(k:Int)<(n:Int):=by omega
  have hkn':k<n:=by omega
  have hpos:0<n:=by omega
  have hne:((n:Int)==0)=false:=by simp;omega
  have hi1:IntKind.i64.wrap ((n:Int) - 1)=(k:Int):=(bq _ (by omega)).trans (by omega);clear bP hp hq0 hq1 e0 e1 hF hE hn hk h0
  go_enter Tryz.func138,Tryz.ntmps138
  go_upto_region 3 with fail
  go_quiet (fail)
  go_wp2_with fail
  go_ret2
  exact ⟨rfl,_,rfl⟩
theorem oh.Yd {W:World} {tv ov:Value} {bs:List (Option Nat)} {vs xs:List Value} (h:oh d L size lv s O tv ov bs vs xs W) {j:Nat} (hj:j≤L.length):∃ g off cap n,n=L.length+1∧g<W.heap.size∧W.cell? ⟨d,0,none⟩=some (.slice (some ⟨g,off,none⟩) n cap)∧W.cell? ⟨d,1,none⟩=some (.int .i64 s.i) ∧
  W.cell? ⟨g,off+j*4+3,none⟩=some (.int .i64 (tok L size j).e):=by
 obtain ⟨g,off,cap,rfl,h2,h3⟩:=h.words
 have hl:j<(L++[tq size]).length:=by simp;omega
 have ht:(L++[tq size])[j]=tok L size j:=by
  by_cases h1:j<L.length
  ·rw [mM size h1,List.getElem_append_left h1]
  ·rw [qL size h1,List.getElem_append_right (by omega)];simp [tq]
 have h4:=xX j h3 hl;rw [ht] at h4;have hb:=h.blk
 exact ⟨g,off,cap,L.length+1,rfl,h2.1,by simp [World.cell?,hb],by simp [World.cell?,hb],h4.2.2.2⟩
end
end K
end Go.Proofs.YtojoahlpgmnbnaaGreatDoor
