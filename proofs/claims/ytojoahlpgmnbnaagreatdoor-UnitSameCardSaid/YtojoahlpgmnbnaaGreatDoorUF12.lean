/- What the claim needs of the texts JShift, QRep, UMem, QLaw, QDecl, QWhole. -/
import Derived.Test.YtojoahlpgmnbnaaGreatDoorUFOp
import Derived.Test.YtojoahlpgmnbnaaGreatDoorUF11
import Derived.Test.YtojoahlpgmnbnaaGreatDoorUF9
import Derived.RangeFuncBox
import Derived.RangeFuncNested
import Derived.RangeFuncBound
import Derived.RangeFuncCalls
import Derived.RangeFuncLeaves
import Derived.WalkKit
import Derived.OwnWalkIn
import Derived.Lib.Hide
import Derived.LoopNIn
import Derived.LoopIn
import Derived.TacticsInMore
import Derived.Test.YtojoahlpgmnbnaaGreatDoorUF1
namespace Go.Proofs.YtojoahlpgmnbnaaGreatDoor.J
open Go.RowKit
open Go.Lib hiding intOf
open U S T
theorem set5_at {W:World} {g o:Nat} {t:TypeId} {cur:Array Value} (v0 v1 v2 v3 v4:Value) (h:W.heap[g]?=some (.cells cur t (0,0))) (hs:o+5≤cur.size) :
  ∃ W' cur',((((W.setCell ⟨g,o,none⟩ v0).setCell ⟨g,o+1,none⟩ v1).setCell ⟨g,o+2,none⟩ v2).setCell ⟨g,o+3,none⟩ v3).setCell ⟨g,o+4,none⟩ v4=W'∧W'.heap[g]?=some (.cells cur' t (0,0))∧cur'.size=cur.size ∧
   (∀ j u,[v0,v1,v2,v3,v4][j]?=some u→cur'[o+j]?=some u)∧(∀ j,j<o∨o+5≤j→cur'[j]?=cur[j]?)∧(∀ k,k≠g→W'.heap[k]?=W.heap[k]?)∧∀ B,B≤g→Below B W W':=by
 have b1:∀ B,B≤g→∀ (X:World) (j:Nat) (v:Value),Below B X (X.setCell ⟨g,j,none⟩ v):=fun B hB X j v=>⟨rfl,rfl,rfl,by simp,fun k hk=>Below.heap_setCell _ _ _ _ (by show k≠g;omega)⟩
 have s0:=Go.Joins.block_setCell h (i:=o) v0
 have s1:=Go.Joins.block_setCell s0 (i:=o+1) v1
 have s2:=Go.Joins.block_setCell s1 (i:=o+2) v2
 have s3:=Go.Joins.block_setCell s2 (i:=o+3) v3
 have s4:=Go.Joins.block_setCell s3 (i:=o+4) v4
 refine ⟨_,_,rfl,s4,?_,?_,?_,?_,fun B hB=>((((b1 B hB _ _ _).trans (b1 B hB _ _ _)).trans (b1 B hB _ _ _)).trans (b1 B hB _ _ _)).trans (b1 B hB _ _ _)⟩
 ·simp
 ·intro j u hj
  rcases j with _|_|_|_|_|j
  ·simp at hj;subst hj;simp [Array.getElem?_setIfInBounds];omega
  ·simp at hj;subst hj;simp [Array.getElem?_setIfInBounds];omega
  ·simp at hj;subst hj;simp [Array.getElem?_setIfInBounds];omega
  ·simp at hj;subst hj;simp [Array.getElem?_setIfInBounds];omega
  ·simp at hj;subst hj;simp [Array.getElem?_setIfInBounds];omega
  ·simp at hj
 ·intro j hj
  simp only [Array.getElem?_setIfInBounds]
  rw [if_neg (by omega),if_neg (by omega),if_neg (by omega),if_neg (by omega),if_neg (by omega)]
 ·intro k hk
  exact (Below.heap_setCell _ _ _ _ hk).trans ((Below.heap_setCell _ _ _ _ hk).trans ((Below.heap_setCell _ _ _ _ hk).trans ((Below.heap_setCell _ _ _ _ hk).trans (Below.heap_setCell _ _ _ _ hk))))
theorem idx_row {o:Oper} {a:Act} (x y g off n i c:Nat) (W:World) (ho:o.op=.indexAddr 47 (.tmp x) (.tmp y)) (h1:a.eval (.tmp x)=.slice (some ⟨g,off,none⟩) n c) (h2:a.eval (.tmp y)=.int .i64 i) (hin:i<n):(execOp a.eval o).run Tryz.prog W=.ok (.value (.pointer (some ⟨g,off+i*5,none⟩))) W:=by
 have hm:(0:Int)≤(i:Int):=by omega
 have hm2:(i:Int)<(n:Int):=by omega
 have hr:(Instr.indexAt 47 (.slice (some ⟨g,off,none⟩) n c) (.int .i64 i)).run Tryz.prog W=.ok (.pointer (some ⟨g,off+i*5,none⟩)) W:=by
  simp [go_sem]
  intro h
  omega
 unfold execOp
 rw [ho]
 simp only [h1,h2,Sem.run_bind,hr,Result.andThen_ok,Sem.run_pure]
theorem wanted_step {c:Prop} [Decidable c] {A B:Prop} (hc:c) (hA:A):if c then A else B:=by rw [if_pos hc];exact hA
def ShiftOwn (q:Pt) (w:World) (e:Ending) (w':World):Prop:=∃ lv,e=.returned (arg q lv)∧KidsIn w' (fun g=>w.heap.size≤g) q lv∧Below w.heap.size w w'∧∀ (ad:Addr) (n c:Nat),lv=.slice (some ad) n c→0<n→∃ cur:Array Value,w'.heap[ad.block]?=some (.cells cur 49 (0,0))
structure Half (H g:Nat) (b:Int) (ks:List Pt) (xs:List Value) (cap i:Nat) (W:World):Prop where
 hg:H≤g
 row:∃ (cur:Array Value) (ys:List Value),W.heap[g]?=some (.cells cur 49 (0,0))∧cur.size=cap*5∧PartsIn W (fun k=>H≤k∧k≠g) (shiftL b (ks.take i)) ys∧∀ (j:Nat) (u:Value),(ys++xs.drop (i*5))[j]?=some u→cur[j]?=some u
def ShiftOC (p:Pt):Prop:=∀ (lv:Value) (R:Nat→Prop) (w:World) (b:Int),KidsIn w R p lv→wtP p≤1099511627776 →
 Calls Tryz.prog 38 #[arg p lv,.int .i64 b] w (ShiftOwn (shiftP b p) w)
set_option maxHeartbeats 8000000 in
set_option maxRecDepth 20000 in
theorem shift_own:∀ p,ShiftOC p:=Pt.ind fun k t f e ks IH lv R w b hv hw=>by
 obtain ⟨a,c,rfl⟩:=kids_form hv
 obtain ⟨_,hcap,hrow⟩:=kids_row hv
 have HIH:=hid IH
 rw [wtP] at hw
 have hlb:ks.length≤1099511627776:=Nat.le_trans (wtL_length ks) (by omega)
 have HWM:=hid (fun v (h:v∈ks)=>Nat.le_trans (wtL_mem h) (show wtL ks≤1099511627776 by omega))
 obtain ⟨xs,hp,hc,hl⟩:∃ xs,PartsIn w R ks xs∧(ks.length=0∨∃ g off,a=some ⟨g,off,none⟩∧CellsAt w g off xs)∧xs.length=ks.length*5:=by
  rcases hrow with rfl|⟨g,off,xs,rfl,_,h2,h3⟩
  ·exact ⟨[],rfl,.inl rfl,rfl⟩
  ·exact ⟨xs,h3,.inr ⟨g,off,rfl,h2⟩,by have:=PartsIn.length h3;omega⟩
 have HP:=hid hp
 have HC:=hid hc
 have HONE:=hid (parts_one hp)
 obtain ⟨n,hn⟩:∃ n,ks.length=n:=⟨_,rfl⟩
 have HN:=hid hn
 rw [hn] at hlb hl
 have HL:=hid hl
 obtain ⟨f1,hf1⟩:∃ x,moved f e f b=x:=⟨_,rfl⟩
 obtain ⟨e1,he1⟩:∃ x,moved f e e b=x:=⟨_,rfl⟩
 obtain ⟨kb,hkb⟩:∃ x,bstr k=x:=⟨_,rfl⟩
 obtain ⟨tb,htb⟩:∃ x,bstr t=x:=⟨_,rfl⟩
 have HFin:Hid (∀ (W:World) (va:Option Addr) (vc:Nat),Below w.heap.size w W→(n=0∨∃ g ys,va=some ⟨g,0,none⟩∧n≤vc∧w.heap.size≤g∧CellsAt W g 0 ys∧PartsIn W (fun k=>w.heap.size≤k) (shiftL b ks) ys∧∃ cur:Array Value,W.heap[g]?=some (.cells cur 49 (0,0))) →
   ShiftOwn (shiftP b (.mk k t f e ks)) w (.returned (.agg #[.string kb,.string tb,.int .i64 f1,.int .i64 e1,.slice va n vc])) W):=hid (fun W va vc hb h=>by
  have hq:shiftP b (.mk k t f e ks)=.mk k t f1 e1 (shiftL b ks):=by rw [shiftP,hf1,he1]
  rw [hq]
  refine ⟨.slice va n vc,by rw [arg,five,hkb,htb],?_,hb,fun ad n' c' hx hp=>?_⟩
  rotate_left
  ·simp only [Value.slice.injEq] at hx
   obtain ⟨rfl,rfl,rfl⟩:=hx
   rcases h with h0|⟨g,ys,h0,_,_,_,_,h5⟩
   ·omega
   ·cases h0;exact h5
  rcases h with h0|⟨g,ys,rfl,h1,h2,h3,h4,_⟩
  ·have hk0:ks=[]:=List.eq_nil_of_length_eq_zero (by rw [hn];exact h0)
   subst hk0
   refine ⟨va,vc,?_,Nat.zero_le _,.inl rfl⟩
   rw [h0];rfl
  ·refine ⟨some ⟨g,0,none⟩,vc,by rw [shiftL_length,hn],by rw [shiftL_length,hn];exact h1,.inr ⟨g,0,ys,rfl,h2,h3,h4⟩⟩)
 obtain ⟨q,hq⟩:∃ q,shiftP b (.mk k t f e ks)=q:=⟨_,rfl⟩
 rw [hq] at HFin ⊢
 simp only [arg,five]
 rw [hn,hkb,htb]
 have HF1:=hid hf1
 have HE1:=hid he1
 clear hv hrow IH hw hp hc hl hn hcap hkb htb hq hf1 he1
 have go:∀ X:World,Below w.heap.size w X→(n=0∨∃ g off,a=some ⟨g,off,none⟩∧CellsAt X g off xs):=fun X hX=>by
  rw [← HN.out]
  exact HC.out.imp id (fun ⟨g,off,h1,h2⟩=>⟨g,off,h1,fun j u hj=>(hX.cell (World.block_lt_of_cell? w _ (h2 j u hj))).trans (h2 j u hj)⟩)
 have HGo:=hid go
 clear go HC
 go_enter Tryz.func38,Tryz.ntmps38
 by_cases hz:f=0∧e=0
 ·have hzz:=hz
  obtain ⟨rfl,rfl⟩:=hzz
  go_upto_region 4 with fail
  obtain ⟨w1,hw1,hq1,hr1,hb1,hz1⟩:=two_new w (.cells #[.string kb,.string tb,.int .i64 0,.int .i64 0,.slice a n c] 49) (.cells #[.string ⟨#[]⟩,.string ⟨#[]⟩,.int .i64 0,.int .i64 0,.slice none 0 0] 49)
  rw [hw1]
  have hfe:f1=0∧e1=0:=by rw [← HF1.out,← HE1.out];simp [moved]
  obtain ⟨rfl,rfl⟩:=hfe
  have HQ:=hid hq1
  have HR:=hid hr1
  have HB:=hid hb1
  have HZ:=hid hz1
  clear hw1 hq1 hr1 hb1 hz1 hz
  have cC:=clone_own (w:=w1) (c:=c) (HGo.out _ HB.out) HL.out HONE.out hlb
  obtain ⟨⟨k0,k1,k2,k3,k4⟩,kf⟩:=cells_five HQ.out
  go_wp2_with fail
  refine cC.mono ?_
  rintro ee w2 ⟨v',rfl,hown,hb2⟩
  obtain ⟨va,vc,rfl⟩:=owns_len hown
  have hq2:=(hb2.block _ (by have:=HZ.out;omega)).trans HQ.out
  have hr2:=(hb2.block _ HZ.out).trans HR.out
  obtain ⟨⟨k0,k1,k2,k3,k4⟩,kf⟩:=cells_five hq2
  have HQ2:=hid hq2
  have HR2:=hid hr2
  have HO2:=hid hown
  have HB2:=hid (HB.out.trans (hb2.mono HB.out.size))
  have HZ2:=hid (Nat.lt_of_lt_of_le HZ.out hb2.size)
  clear cC hq2 hr2 hown hb2 HQ HR HGo
  go_upto_region 5 with fail
  have hq3:(w2.setCell ⟨w.heap.size,4,none⟩ (.slice va n vc)).heap[w.heap.size]?=some (.cells #[.string kb,.string tb,.int .i64 0,.int .i64 0,.slice va n vc] 49 (0,0)):=Go.Joins.block_setCell HQ2.out _
  have hoth:∀ k,k≠w.heap.size→(w2.setCell ⟨w.heap.size,4,none⟩ (.slice va n vc)).heap[k]?=w2.heap[k]?:=fun k hk=>Below.heap_setCell _ _ _ _ hk
  have hb3:Below w.heap.size w (w2.setCell ⟨w.heap.size,4,none⟩ (.slice va n vc)):=HB2.out.trans ⟨rfl,rfl,rfl,by simp,fun k hk=>hoth k (by omega)⟩
  have hz3:(w2.setCell ⟨w.heap.size,4,none⟩ (.slice va n vc)).heap.size=w2.heap.size:=by simp
  generalize w2.setCell ⟨w.heap.size,4,none⟩ (.slice va n vc)=w3 at hq3 hoth hb3 hz3 ⊢
  have hr3:=(hoth (w.heap.size+1) (by omega)).trans HR2.out
  have hhalf:n=0∨∃ g,va=some ⟨g,0,none⟩∧n≤vc∧g<w3.heap.size∧g≠w.heap.size+1∧Half (w.heap.size+2) g b ks xs vc 0 w3:=by
   rcases HO2.out.2 with ⟨_,h0⟩|⟨g,cap,cur,hv,h1,h2,h3,_,h4,h5⟩
   ·exact .inl h0
   ·cases hv
    have hgl:=(Array.getElem?_eq_some_iff.1 h2).1
    have hzz:=HZ.out
    refine .inr ⟨g,rfl,h3,by omega,by omega,⟨by omega,cur,[],(hoth g (by omega)).trans h2,h4,rfl,fun j u hj=>?_⟩⟩
    rw [List.nil_append,Nat.zero_mul,List.drop_zero,← h5,List.getElem?_take] at hj
    split at hj
    ·simpa using hj
    ·cases hj
  have HQ3:=hid hq3
  have HR3:=hid hr3
  have HB3:=hid hb3
  have HH3:=hid hhalf
  have HZ3:Hid (w.heap.size+1<w3.heap.size):=hid (by have:=HZ2.out;omega)
  obtain ⟨⟨k0,k1,k2,k3,k4⟩,kf⟩:=cells_five hq3
  clear hq3 hoth hb3 hz3 hr3 hhalf HQ2 HR2 HO2 HB2 HZ2 HB HZ
  go_wp2_with fail
  clear k0 k1 k2 k3 k4 kf
  go_loopw [32] (fun iv wr=>∃ i:Nat,iv=.int .i64 i∧i≤n∧Hid (Below w.heap.size w wr)∧Hid (wr.heap[w.heap.size]?=some (.cells #[.string kb,.string tb,.int .i64 0,.int .i64 0,.slice va n vc] 49 (0,0)))∧Hid (wr.heap[w.heap.size+1]?=some (.cells #[.string ⟨#[]⟩,.string ⟨#[]⟩,.int .i64 0,.int .i64 0,.slice none 0 0] 49 (0,0))) ∧
    Hid (n=0∨∃ g,va=some ⟨g,0,none⟩∧n≤vc∧g<wr.heap.size∧g≠w.heap.size+1∧Half (w.heap.size+2) g b ks xs vc i wr)) (fun iv _=>n - (Go.RowKit.intOf iv).toNat)
  case atStart=>exact ⟨0,rfl,Nat.zero_le _,HB3,HQ3,HR3,HH3⟩
  case round =>
   obtain ⟨i,rfl,hi,HB,HQ,HR,HH⟩:=hrel
   obtain ⟨⟨k0,k1,k2,k3,k4⟩,kf⟩:=cells_five HQ.out
   clear HB3 HQ3 HR3 HH3
   by_cases hlt:i<n
   ·have hll:i<ks.length:=by rw [HN.out];exact hlt
    obtain ⟨g,rfl,hnc,hgl,hg1,hH⟩:=HH.out.resolve_left (by omega)
    obtain ⟨hg,cur,ys,hcur,hcs,hys,hcy⟩:=hH
    obtain ⟨lv,hkid,hget⟩:=parts_get i hll HP.out
    obtain ⟨p,hpp⟩:∃ p,ks[i]=p:=⟨_,rfl⟩
    have hpm:p∈ks:=by rw [← hpp];exact List.getElem_mem hll
    have hts:=shiftL_take_succ b hll
    rw [hpp] at hkid hget hts
    obtain ⟨kk,tt,ff,ee,kks⟩:=p
    obtain ⟨aa,cc,rfl⟩:=kids_form hkid
    have hyl:ys.length=i*5:=by have:=PartsIn.length hys;rw [shiftL_length,List.length_take] at this;omega
    have at':∀ j u,(five (.mk kk tt ff ee kks) (.slice aa kks.length cc))[j]?=some u→wr.cell? ⟨g,i*5+j,none⟩=some u:=fun j u hj=>by
     have h1:=hget j u hj
     have h2:=hcy (i*5+j) u (by rw [List.getElem?_append_right (by omega),hyl,List.getElem?_drop,show i*5+(i*5+j - i*5)=i*5+j by omega];exact h1)
     unfold World.cell?
     rw [hcur]
     exact h2
    have j0:wr.cell? ⟨g,i*5,none⟩=some (.string (bstr kk)):=at' 0 _ rfl
    have j1:=at' 1 _ rfl
    have j2:=at' 2 _ rfl
    have j3:=at' 3 _ rfl
    have j4:=at' 4 _ rfl
    have cI:=fun X (hX:Below w.heap.size w X)=>(HIH.out _ hpm) (.slice aa kks.length cc) R X b (kids_below hkid hX) (HWM.out _ hpm)
    simp only [arg,five] at cI
    obtain ⟨y0,hy0⟩:∃ x,bstr kk=x:=⟨_,rfl⟩
    obtain ⟨y1,hy1⟩:∃ x,bstr tt=x:=⟨_,rfl⟩
    obtain ⟨z0,hz0⟩:∃ x,kks.length=x:=⟨_,rfl⟩
    rw [hy0] at j0 cI
    rw [hy1] at j1 cI
    rw [hz0] at j4 cI
    obtain ⟨sq,hsq⟩:∃ x,shiftP b (.mk kk tt ff ee kks)=x:=⟨_,rfl⟩
    rw [hsq] at cI hts
    have HCI:=hid cI
    have HHalf:=hid (Half.mk hg ⟨cur,ys,hcur,hcs,hys,hcy⟩)
    have HTS:=hid hts
    have HG:=hid (And.intro hnc (And.intro hgl hg1))
    clear hcur hcs hys hcy hkid hget hpp hpm hts at' cI hy0 hy1 hz0 hsq hg HH hnc hgl hg1 hyl
    go_upto_region 8 with fail
    obtain ⟨w4,hw4,hq4,hb4,hz4⟩:=new_block wr (.cells #[.string y0,.string y1,.int .i64 ff,.int .i64 ee,.slice aa z0 cc] 49)
    rw [hw4]
    obtain ⟨KB,hK⟩:∃ KB,wr.heap.size=KB:=⟨_,rfl⟩
    have HWK:=hid hK
    rw [hK] at hq4 hb4 hz4 ⊢
    have hww:w.heap.size+1<KB:=by have:=HR.out;have:=(Array.getElem?_eq_some_iff.1 this).1;omega
    have hq:=(hb4.block w.heap.size (by omega)).trans HQ.out
    have hr:=(hb4.block (w.heap.size+1) hww).trans HR.out
    have hww1:w.heap.size+2≤KB:=hww
    have hB4:Below w.heap.size w w4:=HB.out.trans (hb4.mono (by omega))
    have hH4:Half (w.heap.size+2) g b ks xs vc i w4:=by
     obtain ⟨a1,cur,ys,a2,a3,a4,a5⟩:=HHalf.out
     exact ⟨a1,cur,ys,(hb4.block g (by have:=HG.out.2.1;omega)).trans a2,a3,PartsIn.later (fun k hk hkl=>hb4.block k (by omega)) (fun _ h=>h) _ _ a4,a5⟩
    have HQ4:=hid hq4
    have HB4:=hid hB4
    have HH4:=hid hH4
    have HP4:=hid hq
    have HR4:=hid hr
    have HZ4:=hid hz4
    have HWW:=hid hww
    clear hw4 hq4 hb4 hz4 hK hww hq hr hB4 hH4 j0 j1 j2 j3 j4 k0 k1 k2 k3 k4 kf HB HQ HR HHalf
    refine wp_region_held_drew (S:=fun X=>Below w.heap.size w X∧X.heap[w.heap.size]?=some (.cells #[.string kb,.string tb,.int .i64 0,.int .i64 0,.slice (some ⟨g,0,none⟩) n vc] 49 (0,0))∧X.heap[KB]?=some (.cells #[.string y0,.string y1,.int .i64 ff,.int .i64 ee,.slice aa z0 cc] 49 (0,0))) (by kernel_rfl) ⟨HB4.out.drew,HP4.out,HQ4.out⟩ (fun hHeld=>?_)
    have HD1:Hid (Half (w.heap.size+2) g b ks xs vc i w4.drew):=hid (by
     obtain ⟨a1,cur,ys,a2,a3,a4,a5⟩:=HH4.out
     exact ⟨a1,cur,ys,a2,a3,parts_below a4 ((Below.refl _ _).drew),a5⟩)
    have HD2:Hid (w4.drew.heap[w.heap.size+1]?=_):=hid HR4.out
    have HD3:Hid (KB<w4.drew.heap.size):=hid HZ4.out
    obtain ⟨V,hV⟩:∃ V,w4.drew=V:=⟨_,rfl⟩
    rw [hV] at hHeld HD1 HD2 HD3 ⊢
    clear hV HH4 HR4 HZ4 HB4 HP4 HQ4
    refine wpAnyH_take (i:=0) (oi:=OP.p53) (v:=.pointer (some ⟨w.heap.size,4,none⟩)) rfl (by kernel_rfl) (by kernel_rfl) (by kernel_rfl) (fun _ _ _ h=>h) (Or.inl ⟨by rfl,fun X hX=>rfl⟩) hHeld ?_
    (try simp only [Act.put,List.setIfInBounds_toArray,List.set_cons_zero,List.set_cons_succ])
    refine wpAnyH_take (i:=1) (oi:=OP.p54) (v:=.slice (some ⟨g,0,none⟩) n vc) rfl (by kernel_rfl) (by kernel_rfl) (by kernel_rfl) (fun _ _ _ h=>h) (Or.inl ⟨by rfl,fun X hX=>by have q:=(cells_five hX.2.1).1.2.2.2.2;go_simp⟩) hHeld ?_
    (try simp only [Act.put,List.setIfInBounds_toArray,List.set_cons_zero,List.set_cons_succ])
    refine wpAnyH_take (i:=2) (oi:=OP.p55) (v:=.int .i64 i) rfl (by kernel_rfl) (by kernel_rfl) (by kernel_rfl) (fun _ _ _ h=>h) (Or.inl ⟨by rfl,fun X hX=>rfl⟩) hHeld ?_
    (try simp only [Act.put,List.setIfInBounds_toArray,List.set_cons_zero,List.set_cons_succ])
    refine wpAnyH_take (i:=3) (oi:=OP.p56) (v:=.agg #[.string y0,.string y1,.int .i64 ff,.int .i64 ee,.slice aa z0 cc]) rfl (by kernel_rfl) (by kernel_rfl) (by kernel_rfl) (fun _ _ _ h=>h) (Or.inl ⟨by rfl,fun X hX=>by obtain ⟨q0,q1,q2,q3,q4⟩:=(cells_five hX.2.2).1;go_simp⟩) hHeld ?_
    (try simp only [Act.put,List.setIfInBounds_toArray,List.set_cons_zero,List.set_cons_succ])
    refine wpAnyH_take (i:=4) (oi:=OP.p57) (v:=.int .i64 b) rfl (by kernel_rfl) (by kernel_rfl) (by kernel_rfl) (fun _ _ _ h=>h) (Or.inl ⟨by rfl,fun X hX=>rfl⟩) hHeld ?_
    (try simp only [Act.put,List.setIfInBounds_toArray,List.set_cons_zero,List.set_cons_succ])
    refine wpAnyH_ready (rs:=[5]) (by kernel_rfl) (by simp) ?_
    refine (AllReadyH.cons (o:=OP.p58) rfl (fun K hK=>?_) AllReadyH.nil)
    refine wanted_step (by kernel_rfl) ?_
    go_simp
    go_at_call 38
    refine (HCI.out V hHeld.1).mono ?_
    rintro e' w5 ⟨lv5,rfl,hk5,hb5,_⟩
    have hVb:w.heap.size≤V.heap.size:=hHeld.1.size
    have hS5:Below w.heap.size w w5∧w5.heap[w.heap.size]?=_∧w5.heap[KB]?=_:=⟨hHeld.1.trans (hb5.mono hVb),(hb5.block _ (by have:=HWW.out;have:=HD3.out;omega)).trans hHeld.2.1,(hb5.block _ HD3.out).trans hHeld.2.2⟩
    dsimp only
    refine hK.out _ _ (hS5) (fun hHeld5=>?_)
    (try simp only [Act.put,List.setIfInBounds_toArray,List.set_cons_zero,List.set_cons_succ])
    clear hK K
    obtain ⟨sk,st,sf,se,sks⟩:=sq
    obtain ⟨sa,sc,rfl⟩:=kids_form hk5
    simp only [arg,five]
    refine wpAnyH_take (i:=6) (oi:=OP.p59) (v:=.pointer (some ⟨g,i*5,none⟩)) rfl (by kernel_rfl) (by kernel_rfl) (by kernel_rfl) (fun _ _ _ h=>h) (Or.inl ⟨by rfl,fun X hX=>(idx_row 38 39 g 0 n i vc X rfl rfl rfl hlt).trans (by rw [Nat.zero_add])⟩) hHeld5 ?_
    (try simp only [Act.put,List.setIfInBounds_toArray,List.set_cons_zero,List.set_cons_succ])
    obtain ⟨a1,cur,ys,a2,a3,a4,a5⟩:=HD1.out
    have hVg:g<V.heap.size:=(Array.getElem?_eq_some_iff.1 a2).1
    have c2:=(hb5.block g hVg).trans a2
    have hnc:=HG.out.1
    have hsz:i*5+5≤cur.size:=by omega
    obtain ⟨W',cur',hW',d1,d2,d3,d4,d5,d6⟩:=set5_at (.string (bstr sk)) (.string (bstr st)) (.int .i64 sf) (.int .i64 se) (.slice sa sks.length sc) c2 hsz
    have cl:∀ j,j<5→∃ u,w5.cell? ⟨g,i*5+j,none⟩=some u:=fun j hj=>by
     have hj5:i*5+j<cur.size:=Nat.lt_of_lt_of_le (Nat.add_lt_add_left hj _) hsz
     unfold World.cell?;rw [c2];exact ⟨cur[i*5+j]'hj5,Array.getElem?_eq_getElem hj5⟩
    obtain ⟨u0,q0⟩:∃ u,w5.cell? ⟨g,i*5,none⟩=some u:=cl 0 (by omega)
    obtain ⟨u1,q1⟩:=cl 1 (by omega)
    obtain ⟨u2,q2⟩:=cl 2 (by omega)
    obtain ⟨u3,q3⟩:=cl 3 (by omega)
    obtain ⟨u4,q4⟩:=cl 4 (by omega)
    have qf:∀ j,w5.frozen? ⟨g,j,none⟩=false:=fun j=>by simp [World.frozen?,c2]
    have hgK:g≠KB:=by have:=HG.out.2.1;have:=HWK.out;omega
    have hgP:g≠w.heap.size:=by omega
    have hgQ:g≠w.heap.size+1:=HG.out.2.2
    have hSf:Below w.heap.size w W'∧W'.heap[w.heap.size]?=_∧W'.heap[KB]?=_:=⟨hS5.1.trans (d6 _ (by omega)),(d5 _ (fun h=>hgP h.symm)).trans hS5.2.1,(d5 _ (fun h=>hgK h.symm)).trans hS5.2.2⟩
    have hHf:Half (w.heap.size+2) g b ks xs vc (i+1) W':=by
     have hyl:ys.length=i*5:=by have h:=PartsIn.length a4;rw [shiftL_length,List.length_take] at h;have:=HN.out;omega
     refine ⟨a1,cur',ys++five (.mk sk st sf se sks) (.slice sa sks.length sc),d1,by rw [d2];exact a3,?_,fun j u hj=>?_⟩
     ·rw [HTS.out]
      refine PartsIn.snoc (PartsIn.later (fun k hk hkl=>(d5 k hk.2).trans (hb5.block k hkl)) (fun _ h=>h) _ _ a4) (KidsIn.later (fun k hk _=>d5 k (by omega)) (fun k hk=>⟨by have:=hVb;have:=HD3.out;have:=HWW.out;omega,by omega⟩) _ _ hk5)
     ·by_cases h1:j<i*5
      ·rw [d4 j (.inl h1)]
       refine a5 j u ?_
       rw [List.append_assoc,List.getElem?_append_left (by omega)] at hj
       rw [List.getElem?_append_left (by omega)];exact hj
      ·by_cases h2:j<i*5+5
       ·obtain ⟨m,rfl⟩:∃ m,j=i*5+m:=⟨j - i*5,by omega⟩
        rw [List.append_assoc,List.getElem?_append_right (by omega),hyl,show i*5+m - i*5=m by omega,List.getElem?_append_left (by rw [five_length];omega)] at hj
        exact d3 m u hj
       ·rw [d4 j (.inr (by omega))]
        refine a5 j u ?_
        rw [List.getElem?_append_right (by rw [List.length_append,five_length];omega),List.length_append,five_length,List.getElem?_drop] at hj
        rw [List.getElem?_append_right (by omega),List.getElem?_drop,← hj]
        congr 1
        omega
    have hr5:=(d5 (w.heap.size+1) (fun h=>hgQ h.symm)).trans ((hb5.block _ (by have:=HD3.out;have:=HWW.out;omega)).trans HD2.out)
    have hgs:g<W'.heap.size:=(Array.getElem?_eq_some_iff.1 d1).1
    have HSf:=hid hSf
    have HHf:=hid hHf
    have HR5:=hid hr5
    have HGS:=hid hgs
    clear a1 a2 a3 a4 a5 c2 hsz cl d1 d2 d3 d4 d5 d6 hHf hr5 hgs hk5 hb5 hS5 hVg hgK hgP hgQ
    refine wpAnyH_ready (rs:=[7]) (by kernel_rfl) (by simp) ?_
    refine (AllReadyH.cons (o:=OP.p60) rfl (fun K hK=>?_) AllReadyH.nil)
    refine wanted_step (by kernel_rfl) ?_
    go_simp
    refine hK.out _ _ (HSf.out) (fun hHeld6=>?_)
    (try simp only [Act.put,List.setIfInBounds_toArray,List.set_cons_zero,List.set_cons_succ])
    clear hK K
    clear q0 q1 q2 q3 q4 qf hW' hSf hHeld6 hHeld5 hHeld
    refine wpAnyH_done (by kernel_rfl) ?_ _
    go_wp2_with fail
    go_roundw
    case rel=>exact ⟨i+1,by go_num,by omega,hid HSf.out.1,hid HSf.out.2.1,HR5,hid (.inr ⟨g,rfl,HG.out.1,HGS.out,HG.out.2.2,HHf.out⟩)⟩
    case measure=>simp [Go.RowKit.intOf];omega
   ·obtain rfl:i=n:=by omega
    have hk:i=0∨∃ g ys,va=some ⟨g,0,none⟩∧i≤vc∧w.heap.size+2≤g∧CellsAt wr g 0 ys∧PartsIn wr (fun k=>w.heap.size+2≤k) (shiftL b ks) ys∧∃ cur:Array Value,wr.heap[g]?=some (.cells cur 49 (0,0)):=by
     refine HH.out.imp id ?_
     rintro ⟨g,h1,h2,h3,h4,h5⟩
     obtain ⟨a1,cur,ys,a2,a3,a4,a5⟩:=h5
     rw [List.take_of_length_le (by rw [HN.out];exact Nat.le_refl _)] at a4
     have hdrop:xs.drop (i*5)=[]:=List.drop_eq_nil_of_le (by rw [HL.out];exact Nat.le_refl _)
     rw [hdrop,List.append_nil] at a5
     refine ⟨g,ys,h1,h2,a1,fun j u hj=>?_,PartsIn.later (fun _ _ _=>rfl) (fun _ h=>h.1) _ _ a4,cur,a2⟩
     rw [Nat.zero_add];unfold World.cell?;rw [a2];exact a5 j u hj
    have HK:=hid hk
    obtain ⟨⟨l0,l1,l2,l3,l4⟩,lf⟩:=cells_five HR.out
    clear hk
    go_wp2_with fail
    obtain ⟨Wf,hWf,f0,oth,hbf⟩:=set_five (.string kb) (.string tb) (.int .i64 0) (.int .i64 0) (.slice va i vc) HR.out
    rw [hWf]
    obtain ⟨⟨y0,y1,y2,y3,y4⟩,_⟩:=cells_five f0
    have hfin:=HFin.out Wf va vc (HB.out.trans (hbf _ (by omega))) (HK.out.imp id (fun ⟨g,ys,h1,h2,h3,h4,h5,h7⟩=>⟨g,ys,h1,h2,by omega,fun j u hj=>by
     have h6:=h4 j u hj
     unfold World.cell? at h6 ⊢
     rw [oth g (by omega)];exact h6,PartsIn.later (fun k hk _=>oth k (by omega)) (fun k hk=>by omega) _ _ h5,h7.imp (fun _ h=>(oth g (by omega)).trans h)⟩))
    clear hWf f0 oth hbf l0 l1 l2 l3 l4 lf k0 k1 k2 k3 k4 kf
    simp [bodyPost,results,Tryz.results38,go_sem,y0,y1,y2,y3,y4]
    exact hfin
 by_cases hf0:f=0
 ·have he0:¬ e=0:=fun h=>hz ⟨hf0,h⟩
  subst hf0
  have q1:((e:Int) != 0)=true:=by simpa using he0
  have q2:((e:Int)==0)=false:=by simpa using he0
  have hfe:wrap64 b=f1∧wrap64 (e+b)=e1:=by rw [← HF1.out,← HE1.out];unfold moved;rw [if_neg hz,if_neg hz,Int.zero_add];exact ⟨rfl,rfl⟩
  go_upto_region 4 with fail
  rw [hfe.1,hfe.2]
  obtain ⟨w1,hw1,hq1,hr1,hb1,hz1⟩:=two_new w (.cells #[.string kb,.string tb,.int .i64 f1,.int .i64 e1,.slice a n c] 49) (.cells #[.string ⟨#[]⟩,.string ⟨#[]⟩,.int .i64 0,.int .i64 0,.slice none 0 0] 49)
  rw [hw1]
  have HQ:=hid hq1
  have HR:=hid hr1
  have HB:=hid hb1
  have HZ:=hid hz1
  clear hw1 hq1 hr1 hb1 hz1 hz hfe he0 q1 q2
  have cC:=clone_own (w:=w1) (c:=c) (HGo.out _ HB.out) HL.out HONE.out hlb
  obtain ⟨⟨k0,k1,k2,k3,k4⟩,kf⟩:=cells_five HQ.out
  go_wp2_with fail
  refine cC.mono ?_
  rintro ee w2 ⟨v',rfl,hown,hb2⟩
  obtain ⟨va,vc,rfl⟩:=owns_len hown
  have hq2:=(hb2.block _ (by have:=HZ.out;omega)).trans HQ.out
  have hr2:=(hb2.block _ HZ.out).trans HR.out
  obtain ⟨⟨k0,k1,k2,k3,k4⟩,kf⟩:=cells_five hq2
  have HQ2:=hid hq2
  have HR2:=hid hr2
  have HO2:=hid hown
  have HB2:=hid (HB.out.trans (hb2.mono HB.out.size))
  have HZ2:=hid (Nat.lt_of_lt_of_le HZ.out hb2.size)
  clear cC hq2 hr2 hown hb2 HQ HR HGo
  go_upto_region 5 with fail
  have hq3:(w2.setCell ⟨w.heap.size,4,none⟩ (.slice va n vc)).heap[w.heap.size]?=some (.cells #[.string kb,.string tb,.int .i64 f1,.int .i64 e1,.slice va n vc] 49 (0,0)):=Go.Joins.block_setCell HQ2.out _
  have hoth:∀ k,k≠w.heap.size→(w2.setCell ⟨w.heap.size,4,none⟩ (.slice va n vc)).heap[k]?=w2.heap[k]?:=fun k hk=>Below.heap_setCell _ _ _ _ hk
  have hb3:Below w.heap.size w (w2.setCell ⟨w.heap.size,4,none⟩ (.slice va n vc)):=HB2.out.trans ⟨rfl,rfl,rfl,by simp,fun k hk=>hoth k (by omega)⟩
  have hz3:(w2.setCell ⟨w.heap.size,4,none⟩ (.slice va n vc)).heap.size=w2.heap.size:=by simp
  generalize w2.setCell ⟨w.heap.size,4,none⟩ (.slice va n vc)=w3 at hq3 hoth hb3 hz3 ⊢
  have hr3:=(hoth (w.heap.size+1) (by omega)).trans HR2.out
  have hhalf:n=0∨∃ g,va=some ⟨g,0,none⟩∧n≤vc∧g<w3.heap.size∧g≠w.heap.size+1∧Half (w.heap.size+2) g b ks xs vc 0 w3:=by
   rcases HO2.out.2 with ⟨_,h0⟩|⟨g,cap,cur,hv,h1,h2,h3,_,h4,h5⟩
   ·exact .inl h0
   ·cases hv
    have hgl:=(Array.getElem?_eq_some_iff.1 h2).1
    have hzz:=HZ.out
    refine .inr ⟨g,rfl,h3,by omega,by omega,⟨by omega,cur,[],(hoth g (by omega)).trans h2,h4,rfl,fun j u hj=>?_⟩⟩
    rw [List.nil_append,Nat.zero_mul,List.drop_zero,← h5,List.getElem?_take] at hj
    split at hj
    ·simpa using hj
    ·cases hj
  have HQ3:=hid hq3
  have HR3:=hid hr3
  have HB3:=hid hb3
  have HH3:=hid hhalf
  have HZ3:Hid (w.heap.size+1<w3.heap.size):=hid (by have:=HZ2.out;omega)
  obtain ⟨⟨k0,k1,k2,k3,k4⟩,kf⟩:=cells_five hq3
  clear hq3 hoth hb3 hz3 hr3 hhalf HQ2 HR2 HO2 HB2 HZ2 HB HZ
  go_wp2_with fail
  clear k0 k1 k2 k3 k4 kf
  go_loopw [32] (fun iv wr=>∃ i:Nat,iv=.int .i64 i∧i≤n∧Hid (Below w.heap.size w wr)∧Hid (wr.heap[w.heap.size]?=some (.cells #[.string kb,.string tb,.int .i64 f1,.int .i64 e1,.slice va n vc] 49 (0,0)))∧Hid (wr.heap[w.heap.size+1]?=some (.cells #[.string ⟨#[]⟩,.string ⟨#[]⟩,.int .i64 0,.int .i64 0,.slice none 0 0] 49 (0,0))) ∧
    Hid (n=0∨∃ g,va=some ⟨g,0,none⟩∧n≤vc∧g<wr.heap.size∧g≠w.heap.size+1∧Half (w.heap.size+2) g b ks xs vc i wr)) (fun iv _=>n - (Go.RowKit.intOf iv).toNat)
  case atStart=>exact ⟨0,rfl,Nat.zero_le _,HB3,HQ3,HR3,HH3⟩
  case round =>
   obtain ⟨i,rfl,hi,HB,HQ,HR,HH⟩:=hrel
   obtain ⟨⟨k0,k1,k2,k3,k4⟩,kf⟩:=cells_five HQ.out
   clear HB3 HQ3 HR3 HH3
   by_cases hlt:i<n
   ·have hll:i<ks.length:=by rw [HN.out];exact hlt
    obtain ⟨g,rfl,hnc,hgl,hg1,hH⟩:=HH.out.resolve_left (by omega)
    obtain ⟨hg,cur,ys,hcur,hcs,hys,hcy⟩:=hH
    obtain ⟨lv,hkid,hget⟩:=parts_get i hll HP.out
    obtain ⟨p,hpp⟩:∃ p,ks[i]=p:=⟨_,rfl⟩
    have hpm:p∈ks:=by rw [← hpp];exact List.getElem_mem hll
    have hts:=shiftL_take_succ b hll
    rw [hpp] at hkid hget hts
    obtain ⟨kk,tt,ff,ee,kks⟩:=p
    obtain ⟨aa,cc,rfl⟩:=kids_form hkid
    have hyl:ys.length=i*5:=by have:=PartsIn.length hys;rw [shiftL_length,List.length_take] at this;omega
    have at':∀ j u,(five (.mk kk tt ff ee kks) (.slice aa kks.length cc))[j]?=some u→wr.cell? ⟨g,i*5+j,none⟩=some u:=fun j u hj=>by
     have h1:=hget j u hj
     have h2:=hcy (i*5+j) u (by rw [List.getElem?_append_right (by omega),hyl,List.getElem?_drop,show i*5+(i*5+j - i*5)=i*5+j by omega];exact h1)
     unfold World.cell?
     rw [hcur]
     exact h2
    have j0:wr.cell? ⟨g,i*5,none⟩=some (.string (bstr kk)):=at' 0 _ rfl
    have j1:=at' 1 _ rfl
    have j2:=at' 2 _ rfl
    have j3:=at' 3 _ rfl
    have j4:=at' 4 _ rfl
    have cI:=fun X (hX:Below w.heap.size w X)=>(HIH.out _ hpm) (.slice aa kks.length cc) R X b (kids_below hkid hX) (HWM.out _ hpm)
    simp only [arg,five] at cI
    obtain ⟨y0,hy0⟩:∃ x,bstr kk=x:=⟨_,rfl⟩
    obtain ⟨y1,hy1⟩:∃ x,bstr tt=x:=⟨_,rfl⟩
    obtain ⟨z0,hz0⟩:∃ x,kks.length=x:=⟨_,rfl⟩
    rw [hy0] at j0 cI
    rw [hy1] at j1 cI
    rw [hz0] at j4 cI
    obtain ⟨sq,hsq⟩:∃ x,shiftP b (.mk kk tt ff ee kks)=x:=⟨_,rfl⟩
    rw [hsq] at cI hts
    have HCI:=hid cI
    have HHalf:=hid (Half.mk hg ⟨cur,ys,hcur,hcs,hys,hcy⟩)
    have HTS:=hid hts
    have HG:=hid (And.intro hnc (And.intro hgl hg1))
    clear hcur hcs hys hcy hkid hget hpp hpm hts at' cI hy0 hy1 hz0 hsq hg HH hnc hgl hg1 hyl
    go_upto_region 8 with fail
    obtain ⟨w4,hw4,hq4,hb4,hz4⟩:=new_block wr (.cells #[.string y0,.string y1,.int .i64 ff,.int .i64 ee,.slice aa z0 cc] 49)
    rw [hw4]
    obtain ⟨KB,hK⟩:∃ KB,wr.heap.size=KB:=⟨_,rfl⟩
    have HWK:=hid hK
    rw [hK] at hq4 hb4 hz4 ⊢
    have hww:w.heap.size+1<KB:=by have:=HR.out;have:=(Array.getElem?_eq_some_iff.1 this).1;omega
    have hq:=(hb4.block w.heap.size (by omega)).trans HQ.out
    have hr:=(hb4.block (w.heap.size+1) hww).trans HR.out
    have hww1:w.heap.size+2≤KB:=hww
    have hB4:Below w.heap.size w w4:=HB.out.trans (hb4.mono (by omega))
    have hH4:Half (w.heap.size+2) g b ks xs vc i w4:=by
     obtain ⟨a1,cur,ys,a2,a3,a4,a5⟩:=HHalf.out
     exact ⟨a1,cur,ys,(hb4.block g (by have:=HG.out.2.1;omega)).trans a2,a3,PartsIn.later (fun k hk hkl=>hb4.block k (by omega)) (fun _ h=>h) _ _ a4,a5⟩
    have HQ4:=hid hq4
    have HB4:=hid hB4
    have HH4:=hid hH4
    have HP4:=hid hq
    have HR4:=hid hr
    have HZ4:=hid hz4
    have HWW:=hid hww
    clear hw4 hq4 hb4 hz4 hK hww hq hr hB4 hH4 j0 j1 j2 j3 j4 k0 k1 k2 k3 k4 kf HB HQ HR HHalf
    refine wp_region_held_drew (S:=fun X=>Below w.heap.size w X∧X.heap[w.heap.size]?=some (.cells #[.string kb,.string tb,.int .i64 f1,.int .i64 e1,.slice (some ⟨g,0,none⟩) n vc] 49 (0,0))∧X.heap[KB]?=some (.cells #[.string y0,.string y1,.int .i64 ff,.int .i64 ee,.slice aa z0 cc] 49 (0,0))) (by kernel_rfl) ⟨HB4.out.drew,HP4.out,HQ4.out⟩ (fun hHeld=>?_)
    have HD1:Hid (Half (w.heap.size+2) g b ks xs vc i w4.drew):=hid (by
     obtain ⟨a1,cur,ys,a2,a3,a4,a5⟩:=HH4.out
     exact ⟨a1,cur,ys,a2,a3,parts_below a4 ((Below.refl _ _).drew),a5⟩)
    have HD2:Hid (w4.drew.heap[w.heap.size+1]?=_):=hid HR4.out
    have HD3:Hid (KB<w4.drew.heap.size):=hid HZ4.out
    obtain ⟨V,hV⟩:∃ V,w4.drew=V:=⟨_,rfl⟩
    rw [hV] at hHeld HD1 HD2 HD3 ⊢
    clear hV HH4 HR4 HZ4 HB4 HP4 HQ4
    refine wpAnyH_take (i:=0) (oi:=OP.p53) (v:=.pointer (some ⟨w.heap.size,4,none⟩)) rfl (by kernel_rfl) (by kernel_rfl) (by kernel_rfl) (fun _ _ _ h=>h) (Or.inl ⟨by rfl,fun X hX=>rfl⟩) hHeld ?_
    (try simp only [Act.put,List.setIfInBounds_toArray,List.set_cons_zero,List.set_cons_succ])
    refine wpAnyH_take (i:=1) (oi:=OP.p54) (v:=.slice (some ⟨g,0,none⟩) n vc) rfl (by kernel_rfl) (by kernel_rfl) (by kernel_rfl) (fun _ _ _ h=>h) (Or.inl ⟨by rfl,fun X hX=>by have q:=(cells_five hX.2.1).1.2.2.2.2;go_simp⟩) hHeld ?_
    (try simp only [Act.put,List.setIfInBounds_toArray,List.set_cons_zero,List.set_cons_succ])
    refine wpAnyH_take (i:=2) (oi:=OP.p55) (v:=.int .i64 i) rfl (by kernel_rfl) (by kernel_rfl) (by kernel_rfl) (fun _ _ _ h=>h) (Or.inl ⟨by rfl,fun X hX=>rfl⟩) hHeld ?_
    (try simp only [Act.put,List.setIfInBounds_toArray,List.set_cons_zero,List.set_cons_succ])
    refine wpAnyH_take (i:=3) (oi:=OP.p56) (v:=.agg #[.string y0,.string y1,.int .i64 ff,.int .i64 ee,.slice aa z0 cc]) rfl (by kernel_rfl) (by kernel_rfl) (by kernel_rfl) (fun _ _ _ h=>h) (Or.inl ⟨by rfl,fun X hX=>by obtain ⟨q0,q1,q2,q3,q4⟩:=(cells_five hX.2.2).1;go_simp⟩) hHeld ?_
    (try simp only [Act.put,List.setIfInBounds_toArray,List.set_cons_zero,List.set_cons_succ])
    refine wpAnyH_take (i:=4) (oi:=OP.p57) (v:=.int .i64 b) rfl (by kernel_rfl) (by kernel_rfl) (by kernel_rfl) (fun _ _ _ h=>h) (Or.inl ⟨by rfl,fun X hX=>rfl⟩) hHeld ?_
    (try simp only [Act.put,List.setIfInBounds_toArray,List.set_cons_zero,List.set_cons_succ])
    refine wpAnyH_ready (rs:=[5]) (by kernel_rfl) (by simp) ?_
    refine (AllReadyH.cons (o:=OP.p58) rfl (fun K hK=>?_) AllReadyH.nil)
    refine wanted_step (by kernel_rfl) ?_
    go_simp
    go_at_call 38
    refine (HCI.out V hHeld.1).mono ?_
    rintro e' w5 ⟨lv5,rfl,hk5,hb5,_⟩
    have hVb:w.heap.size≤V.heap.size:=hHeld.1.size
    have hS5:Below w.heap.size w w5∧w5.heap[w.heap.size]?=_∧w5.heap[KB]?=_:=⟨hHeld.1.trans (hb5.mono hVb),(hb5.block _ (by have:=HWW.out;have:=HD3.out;omega)).trans hHeld.2.1,(hb5.block _ HD3.out).trans hHeld.2.2⟩
    dsimp only
    refine hK.out _ _ (hS5) (fun hHeld5=>?_)
    (try simp only [Act.put,List.setIfInBounds_toArray,List.set_cons_zero,List.set_cons_succ])
    clear hK K
    obtain ⟨sk,st,sf,se,sks⟩:=sq
    obtain ⟨sa,sc,rfl⟩:=kids_form hk5
    simp only [arg,five]
    refine wpAnyH_take (i:=6) (oi:=OP.p59) (v:=.pointer (some ⟨g,i*5,none⟩)) rfl (by kernel_rfl) (by kernel_rfl) (by kernel_rfl) (fun _ _ _ h=>h) (Or.inl ⟨by rfl,fun X hX=>(idx_row 38 39 g 0 n i vc X rfl rfl rfl hlt).trans (by rw [Nat.zero_add])⟩) hHeld5 ?_
    (try simp only [Act.put,List.setIfInBounds_toArray,List.set_cons_zero,List.set_cons_succ])
    obtain ⟨a1,cur,ys,a2,a3,a4,a5⟩:=HD1.out
    have hVg:g<V.heap.size:=(Array.getElem?_eq_some_iff.1 a2).1
    have c2:=(hb5.block g hVg).trans a2
    have hnc:=HG.out.1
    have hsz:i*5+5≤cur.size:=by omega
    obtain ⟨W',cur',hW',d1,d2,d3,d4,d5,d6⟩:=set5_at (.string (bstr sk)) (.string (bstr st)) (.int .i64 sf) (.int .i64 se) (.slice sa sks.length sc) c2 hsz
    have cl:∀ j,j<5→∃ u,w5.cell? ⟨g,i*5+j,none⟩=some u:=fun j hj=>by
     have hj5:i*5+j<cur.size:=Nat.lt_of_lt_of_le (Nat.add_lt_add_left hj _) hsz
     unfold World.cell?;rw [c2];exact ⟨cur[i*5+j]'hj5,Array.getElem?_eq_getElem hj5⟩
    obtain ⟨u0,q0⟩:∃ u,w5.cell? ⟨g,i*5,none⟩=some u:=cl 0 (by omega)
    obtain ⟨u1,q1⟩:=cl 1 (by omega)
    obtain ⟨u2,q2⟩:=cl 2 (by omega)
    obtain ⟨u3,q3⟩:=cl 3 (by omega)
    obtain ⟨u4,q4⟩:=cl 4 (by omega)
    have qf:∀ j,w5.frozen? ⟨g,j,none⟩=false:=fun j=>by simp [World.frozen?,c2]
    have hgK:g≠KB:=by have:=HG.out.2.1;have:=HWK.out;omega
    have hgP:g≠w.heap.size:=by omega
    have hgQ:g≠w.heap.size+1:=HG.out.2.2
    have hSf:Below w.heap.size w W'∧W'.heap[w.heap.size]?=_∧W'.heap[KB]?=_:=⟨hS5.1.trans (d6 _ (by omega)),(d5 _ (fun h=>hgP h.symm)).trans hS5.2.1,(d5 _ (fun h=>hgK h.symm)).trans hS5.2.2⟩
    have hHf:Half (w.heap.size+2) g b ks xs vc (i+1) W':=by
     have hyl:ys.length=i*5:=by have h:=PartsIn.length a4;rw [shiftL_length,List.length_take] at h;have:=HN.out;omega
     refine ⟨a1,cur',ys++five (.mk sk st sf se sks) (.slice sa sks.length sc),d1,by rw [d2];exact a3,?_,fun j u hj=>?_⟩
     ·rw [HTS.out]
      refine PartsIn.snoc (PartsIn.later (fun k hk hkl=>(d5 k hk.2).trans (hb5.block k hkl)) (fun _ h=>h) _ _ a4) (KidsIn.later (fun k hk _=>d5 k (by omega)) (fun k hk=>⟨by have:=hVb;have:=HD3.out;have:=HWW.out;omega,by omega⟩) _ _ hk5)
     ·by_cases h1:j<i*5
      ·rw [d4 j (.inl h1)]
       refine a5 j u ?_
       rw [List.append_assoc,List.getElem?_append_left (by omega)] at hj
       rw [List.getElem?_append_left (by omega)];exact hj
      ·by_cases h2:j<i*5+5
       ·obtain ⟨m,rfl⟩:∃ m,j=i*5+m:=⟨j - i*5,by omega⟩
        rw [List.append_assoc,List.getElem?_append_right (by omega),hyl,show i*5+m - i*5=m by omega,List.getElem?_append_left (by rw [five_length];omega)] at hj
        exact d3 m u hj
       ·rw [d4 j (.inr (by omega))]
        refine a5 j u ?_
        rw [List.getElem?_append_right (by rw [List.length_append,five_length];omega),List.length_append,five_length,List.getElem?_drop] at hj
        rw [List.getElem?_append_right (by omega),List.getElem?_drop,← hj]
        congr 1
        omega
    have hr5:=(d5 (w.heap.size+1) (fun h=>hgQ h.symm)).trans ((hb5.block _ (by have:=HD3.out;have:=HWW.out;omega)).trans HD2.out)
    have hgs:g<W'.heap.size:=(Array.getElem?_eq_some_iff.1 d1).1
    have HSf:=hid hSf
    have HHf:=hid hHf
    have HR5:=hid hr5
    have HGS:=hid hgs
    clear a1 a2 a3 a4 a5 c2 hsz cl d1 d2 d3 d4 d5 d6 hHf hr5 hgs hk5 hb5 hS5 hVg hgK hgP hgQ
    refine wpAnyH_ready (rs:=[7]) (by kernel_rfl) (by simp) ?_
    refine (AllReadyH.cons (o:=OP.p60) rfl (fun K hK=>?_) AllReadyH.nil)
    refine wanted_step (by kernel_rfl) ?_
    go_simp
    refine hK.out _ _ (HSf.out) (fun hHeld6=>?_)
    (try simp only [Act.put,List.setIfInBounds_toArray,List.set_cons_zero,List.set_cons_succ])
    clear hK K
    clear q0 q1 q2 q3 q4 qf hW' hSf hHeld6 hHeld5 hHeld
    refine wpAnyH_done (by kernel_rfl) ?_ _
    go_wp2_with fail
    go_roundw
    case rel=>exact ⟨i+1,by go_num,by omega,hid HSf.out.1,hid HSf.out.2.1,HR5,hid (.inr ⟨g,rfl,HG.out.1,HGS.out,HG.out.2.2,HHf.out⟩)⟩
    case measure=>simp [Go.RowKit.intOf];omega
   ·obtain rfl:i=n:=by omega
    have hk:i=0∨∃ g ys,va=some ⟨g,0,none⟩∧i≤vc∧w.heap.size+2≤g∧CellsAt wr g 0 ys∧PartsIn wr (fun k=>w.heap.size+2≤k) (shiftL b ks) ys∧∃ cur:Array Value,wr.heap[g]?=some (.cells cur 49 (0,0)):=by
     refine HH.out.imp id ?_
     rintro ⟨g,h1,h2,h3,h4,h5⟩
     obtain ⟨a1,cur,ys,a2,a3,a4,a5⟩:=h5
     rw [List.take_of_length_le (by rw [HN.out];exact Nat.le_refl _)] at a4
     have hdrop:xs.drop (i*5)=[]:=List.drop_eq_nil_of_le (by rw [HL.out];exact Nat.le_refl _)
     rw [hdrop,List.append_nil] at a5
     refine ⟨g,ys,h1,h2,a1,fun j u hj=>?_,PartsIn.later (fun _ _ _=>rfl) (fun _ h=>h.1) _ _ a4,cur,a2⟩
     rw [Nat.zero_add];unfold World.cell?;rw [a2];exact a5 j u hj
    have HK:=hid hk
    obtain ⟨⟨l0,l1,l2,l3,l4⟩,lf⟩:=cells_five HR.out
    clear hk
    go_wp2_with fail
    obtain ⟨Wf,hWf,f0,oth,hbf⟩:=set_five (.string kb) (.string tb) (.int .i64 f1) (.int .i64 e1) (.slice va i vc) HR.out
    rw [hWf]
    obtain ⟨⟨y0,y1,y2,y3,y4⟩,_⟩:=cells_five f0
    have hfin:=HFin.out Wf va vc (HB.out.trans (hbf _ (by omega))) (HK.out.imp id (fun ⟨g,ys,h1,h2,h3,h4,h5,h7⟩=>⟨g,ys,h1,h2,by omega,fun j u hj=>by
     have h6:=h4 j u hj
     unfold World.cell? at h6 ⊢
     rw [oth g (by omega)];exact h6,PartsIn.later (fun k hk _=>oth k (by omega)) (fun k hk=>by omega) _ _ h5,h7.imp (fun _ h=>(oth g (by omega)).trans h)⟩))
    clear hWf f0 oth hbf l0 l1 l2 l3 l4 lf k0 k1 k2 k3 k4 kf
    simp [bodyPost,results,Tryz.results38,go_sem,y0,y1,y2,y3,y4]
    exact hfin
 ·have q1:((f:Int) != 0)=true:=by simpa using hf0
  have q2:((f:Int)==0)=false:=by simpa using hf0
  have hfe:wrap64 (f+b)=f1∧wrap64 (e+b)=e1:=by rw [← HF1.out,← HE1.out];unfold moved;rw [if_neg hz,if_neg hz];exact ⟨rfl,rfl⟩
  go_upto_region 4 with fail
  rw [hfe.1,hfe.2]
  obtain ⟨w1,hw1,hq1,hr1,hb1,hz1⟩:=two_new w (.cells #[.string kb,.string tb,.int .i64 f1,.int .i64 e1,.slice a n c] 49) (.cells #[.string ⟨#[]⟩,.string ⟨#[]⟩,.int .i64 0,.int .i64 0,.slice none 0 0] 49)
  rw [hw1]
  have HQ:=hid hq1
  have HR:=hid hr1
  have HB:=hid hb1
  have HZ:=hid hz1
  clear hw1 hq1 hr1 hb1 hz1 hz hfe hf0 q1 q2
  have cC:=clone_own (w:=w1) (c:=c) (HGo.out _ HB.out) HL.out HONE.out hlb
  obtain ⟨⟨k0,k1,k2,k3,k4⟩,kf⟩:=cells_five HQ.out
  go_wp2_with fail
  refine cC.mono ?_
  rintro ee w2 ⟨v',rfl,hown,hb2⟩
  obtain ⟨va,vc,rfl⟩:=owns_len hown
  have hq2:=(hb2.block _ (by have:=HZ.out;omega)).trans HQ.out
  have hr2:=(hb2.block _ HZ.out).trans HR.out
  obtain ⟨⟨k0,k1,k2,k3,k4⟩,kf⟩:=cells_five hq2
  have HQ2:=hid hq2
  have HR2:=hid hr2
  have HO2:=hid hown
  have HB2:=hid (HB.out.trans (hb2.mono HB.out.size))
  have HZ2:=hid (Nat.lt_of_lt_of_le HZ.out hb2.size)
  clear cC hq2 hr2 hown hb2 HQ HR HGo
  go_upto_region 5 with fail
  have hq3:(w2.setCell ⟨w.heap.size,4,none⟩ (.slice va n vc)).heap[w.heap.size]?=some (.cells #[.string kb,.string tb,.int .i64 f1,.int .i64 e1,.slice va n vc] 49 (0,0)):=Go.Joins.block_setCell HQ2.out _
  have hoth:∀ k,k≠w.heap.size→(w2.setCell ⟨w.heap.size,4,none⟩ (.slice va n vc)).heap[k]?=w2.heap[k]?:=fun k hk=>Below.heap_setCell _ _ _ _ hk
  have hb3:Below w.heap.size w (w2.setCell ⟨w.heap.size,4,none⟩ (.slice va n vc)):=HB2.out.trans ⟨rfl,rfl,rfl,by simp,fun k hk=>hoth k (by omega)⟩
  have hz3:(w2.setCell ⟨w.heap.size,4,none⟩ (.slice va n vc)).heap.size=w2.heap.size:=by simp
  generalize w2.setCell ⟨w.heap.size,4,none⟩ (.slice va n vc)=w3 at hq3 hoth hb3 hz3 ⊢
  have hr3:=(hoth (w.heap.size+1) (by omega)).trans HR2.out
  have hhalf:n=0∨∃ g,va=some ⟨g,0,none⟩∧n≤vc∧g<w3.heap.size∧g≠w.heap.size+1∧Half (w.heap.size+2) g b ks xs vc 0 w3:=by
   rcases HO2.out.2 with ⟨_,h0⟩|⟨g,cap,cur,hv,h1,h2,h3,_,h4,h5⟩
   ·exact .inl h0
   ·cases hv
    have hgl:=(Array.getElem?_eq_some_iff.1 h2).1
    have hzz:=HZ.out
    refine .inr ⟨g,rfl,h3,by omega,by omega,⟨by omega,cur,[],(hoth g (by omega)).trans h2,h4,rfl,fun j u hj=>?_⟩⟩
    rw [List.nil_append,Nat.zero_mul,List.drop_zero,← h5,List.getElem?_take] at hj
    split at hj
    ·simpa using hj
    ·cases hj
  have HQ3:=hid hq3
  have HR3:=hid hr3
  have HB3:=hid hb3
  have HH3:=hid hhalf
  have HZ3:Hid (w.heap.size+1<w3.heap.size):=hid (by have:=HZ2.out;omega)
  obtain ⟨⟨k0,k1,k2,k3,k4⟩,kf⟩:=cells_five hq3
  clear hq3 hoth hb3 hz3 hr3 hhalf HQ2 HR2 HO2 HB2 HZ2 HB HZ
  go_wp2_with fail
  clear k0 k1 k2 k3 k4 kf
  go_loopw [32] (fun iv wr=>∃ i:Nat,iv=.int .i64 i∧i≤n∧Hid (Below w.heap.size w wr)∧Hid (wr.heap[w.heap.size]?=some (.cells #[.string kb,.string tb,.int .i64 f1,.int .i64 e1,.slice va n vc] 49 (0,0)))∧Hid (wr.heap[w.heap.size+1]?=some (.cells #[.string ⟨#[]⟩,.string ⟨#[]⟩,.int .i64 0,.int .i64 0,.slice none 0 0] 49 (0,0))) ∧
    Hid (n=0∨∃ g,va=some ⟨g,0,none⟩∧n≤vc∧g<wr.heap.size∧g≠w.heap.size+1∧Half (w.heap.size+2) g b ks xs vc i wr)) (fun iv _=>n - (Go.RowKit.intOf iv).toNat)
  case atStart=>exact ⟨0,rfl,Nat.zero_le _,HB3,HQ3,HR3,HH3⟩
  case round =>
   obtain ⟨i,rfl,hi,HB,HQ,HR,HH⟩:=hrel
   obtain ⟨⟨k0,k1,k2,k3,k4⟩,kf⟩:=cells_five HQ.out
   clear HB3 HQ3 HR3 HH3
   by_cases hlt:i<n
   ·have hll:i<ks.length:=by rw [HN.out];exact hlt
    obtain ⟨g,rfl,hnc,hgl,hg1,hH⟩:=HH.out.resolve_left (by omega)
    obtain ⟨hg,cur,ys,hcur,hcs,hys,hcy⟩:=hH
    obtain ⟨lv,hkid,hget⟩:=parts_get i hll HP.out
    obtain ⟨p,hpp⟩:∃ p,ks[i]=p:=⟨_,rfl⟩
    have hpm:p∈ks:=by rw [← hpp];exact List.getElem_mem hll
    have hts:=shiftL_take_succ b hll
    rw [hpp] at hkid hget hts
    obtain ⟨kk,tt,ff,ee,kks⟩:=p
    obtain ⟨aa,cc,rfl⟩:=kids_form hkid
    have hyl:ys.length=i*5:=by have:=PartsIn.length hys;rw [shiftL_length,List.length_take] at this;omega
    have at':∀ j u,(five (.mk kk tt ff ee kks) (.slice aa kks.length cc))[j]?=some u→wr.cell? ⟨g,i*5+j,none⟩=some u:=fun j u hj=>by
     have h1:=hget j u hj
     have h2:=hcy (i*5+j) u (by rw [List.getElem?_append_right (by omega),hyl,List.getElem?_drop,show i*5+(i*5+j - i*5)=i*5+j by omega];exact h1)
     unfold World.cell?
     rw [hcur]
     exact h2
    have j0:wr.cell? ⟨g,i*5,none⟩=some (.string (bstr kk)):=at' 0 _ rfl
    have j1:=at' 1 _ rfl
    have j2:=at' 2 _ rfl
    have j3:=at' 3 _ rfl
    have j4:=at' 4 _ rfl
    have cI:=fun X (hX:Below w.heap.size w X)=>(HIH.out _ hpm) (.slice aa kks.length cc) R X b (kids_below hkid hX) (HWM.out _ hpm)
    simp only [arg,five] at cI
    obtain ⟨y0,hy0⟩:∃ x,bstr kk=x:=⟨_,rfl⟩
    obtain ⟨y1,hy1⟩:∃ x,bstr tt=x:=⟨_,rfl⟩
    obtain ⟨z0,hz0⟩:∃ x,kks.length=x:=⟨_,rfl⟩
    rw [hy0] at j0 cI
    rw [hy1] at j1 cI
    rw [hz0] at j4 cI
    obtain ⟨sq,hsq⟩:∃ x,shiftP b (.mk kk tt ff ee kks)=x:=⟨_,rfl⟩
    rw [hsq] at cI hts
    have HCI:=hid cI
    have HHalf:=hid (Half.mk hg ⟨cur,ys,hcur,hcs,hys,hcy⟩)
    have HTS:=hid hts
    have HG:=hid (And.intro hnc (And.intro hgl hg1))
    clear hcur hcs hys hcy hkid hget hpp hpm hts at' cI hy0 hy1 hz0 hsq hg HH hnc hgl hg1 hyl
    go_upto_region 8 with fail
    obtain ⟨w4,hw4,hq4,hb4,hz4⟩:=new_block wr (.cells #[.string y0,.string y1,.int .i64 ff,.int .i64 ee,.slice aa z0 cc] 49)
    rw [hw4]
    obtain ⟨KB,hK⟩:∃ KB,wr.heap.size=KB:=⟨_,rfl⟩
    have HWK:=hid hK
    rw [hK] at hq4 hb4 hz4 ⊢
    have hww:w.heap.size+1<KB:=by have:=HR.out;have:=(Array.getElem?_eq_some_iff.1 this).1;omega
    have hq:=(hb4.block w.heap.size (by omega)).trans HQ.out
    have hr:=(hb4.block (w.heap.size+1) hww).trans HR.out
    have hww1:w.heap.size+2≤KB:=hww
    have hB4:Below w.heap.size w w4:=HB.out.trans (hb4.mono (by omega))
    have hH4:Half (w.heap.size+2) g b ks xs vc i w4:=by
     obtain ⟨a1,cur,ys,a2,a3,a4,a5⟩:=HHalf.out
     exact ⟨a1,cur,ys,(hb4.block g (by have:=HG.out.2.1;omega)).trans a2,a3,PartsIn.later (fun k hk hkl=>hb4.block k (by omega)) (fun _ h=>h) _ _ a4,a5⟩
    have HQ4:=hid hq4
    have HB4:=hid hB4
    have HH4:=hid hH4
    have HP4:=hid hq
    have HR4:=hid hr
    have HZ4:=hid hz4
    have HWW:=hid hww
    clear hw4 hq4 hb4 hz4 hK hww hq hr hB4 hH4 j0 j1 j2 j3 j4 k0 k1 k2 k3 k4 kf HB HQ HR HHalf
    refine wp_region_held_drew (S:=fun X=>Below w.heap.size w X∧X.heap[w.heap.size]?=some (.cells #[.string kb,.string tb,.int .i64 f1,.int .i64 e1,.slice (some ⟨g,0,none⟩) n vc] 49 (0,0))∧X.heap[KB]?=some (.cells #[.string y0,.string y1,.int .i64 ff,.int .i64 ee,.slice aa z0 cc] 49 (0,0))) (by kernel_rfl) ⟨HB4.out.drew,HP4.out,HQ4.out⟩ (fun hHeld=>?_)
    have HD1:Hid (Half (w.heap.size+2) g b ks xs vc i w4.drew):=hid (by
     obtain ⟨a1,cur,ys,a2,a3,a4,a5⟩:=HH4.out
     exact ⟨a1,cur,ys,a2,a3,parts_below a4 ((Below.refl _ _).drew),a5⟩)
    have HD2:Hid (w4.drew.heap[w.heap.size+1]?=_):=hid HR4.out
    have HD3:Hid (KB<w4.drew.heap.size):=hid HZ4.out
    obtain ⟨V,hV⟩:∃ V,w4.drew=V:=⟨_,rfl⟩
    rw [hV] at hHeld HD1 HD2 HD3 ⊢
    clear hV HH4 HR4 HZ4 HB4 HP4 HQ4
    refine wpAnyH_take (i:=0) (oi:=OP.p53) (v:=.pointer (some ⟨w.heap.size,4,none⟩)) rfl (by kernel_rfl) (by kernel_rfl) (by kernel_rfl) (fun _ _ _ h=>h) (Or.inl ⟨by rfl,fun X hX=>rfl⟩) hHeld ?_
    (try simp only [Act.put,List.setIfInBounds_toArray,List.set_cons_zero,List.set_cons_succ])
    refine wpAnyH_take (i:=1) (oi:=OP.p54) (v:=.slice (some ⟨g,0,none⟩) n vc) rfl (by kernel_rfl) (by kernel_rfl) (by kernel_rfl) (fun _ _ _ h=>h) (Or.inl ⟨by rfl,fun X hX=>by have q:=(cells_five hX.2.1).1.2.2.2.2;go_simp⟩) hHeld ?_
    (try simp only [Act.put,List.setIfInBounds_toArray,List.set_cons_zero,List.set_cons_succ])
    refine wpAnyH_take (i:=2) (oi:=OP.p55) (v:=.int .i64 i) rfl (by kernel_rfl) (by kernel_rfl) (by kernel_rfl) (fun _ _ _ h=>h) (Or.inl ⟨by rfl,fun X hX=>rfl⟩) hHeld ?_
    (try simp only [Act.put,List.setIfInBounds_toArray,List.set_cons_zero,List.set_cons_succ])
    refine wpAnyH_take (i:=3) (oi:=OP.p56) (v:=.agg #[.string y0,.string y1,.int .i64 ff,.int .i64 ee,.slice aa z0 cc]) rfl (by kernel_rfl) (by kernel_rfl) (by kernel_rfl) (fun _ _ _ h=>h) (Or.inl ⟨by rfl,fun X hX=>by obtain ⟨q0,q1,q2,q3,q4⟩:=(cells_five hX.2.2).1;go_simp⟩) hHeld ?_
    (try simp only [Act.put,List.setIfInBounds_toArray,List.set_cons_zero,List.set_cons_succ])
    refine wpAnyH_take (i:=4) (oi:=OP.p57) (v:=.int .i64 b) rfl (by kernel_rfl) (by kernel_rfl) (by kernel_rfl) (fun _ _ _ h=>h) (Or.inl ⟨by rfl,fun X hX=>rfl⟩) hHeld ?_
    (try simp only [Act.put,List.setIfInBounds_toArray,List.set_cons_zero,List.set_cons_succ])
    refine wpAnyH_ready (rs:=[5]) (by kernel_rfl) (by simp) ?_
    refine (AllReadyH.cons (o:=OP.p58) rfl (fun K hK=>?_) AllReadyH.nil)
    refine wanted_step (by kernel_rfl) ?_
    go_simp
    go_at_call 38
    refine (HCI.out V hHeld.1).mono ?_
    rintro e' w5 ⟨lv5,rfl,hk5,hb5,_⟩
    have hVb:w.heap.size≤V.heap.size:=hHeld.1.size
    have hS5:Below w.heap.size w w5∧w5.heap[w.heap.size]?=_∧w5.heap[KB]?=_:=⟨hHeld.1.trans (hb5.mono hVb),(hb5.block _ (by have:=HWW.out;have:=HD3.out;omega)).trans hHeld.2.1,(hb5.block _ HD3.out).trans hHeld.2.2⟩
    dsimp only
    refine hK.out _ _ (hS5) (fun hHeld5=>?_)
    (try simp only [Act.put,List.setIfInBounds_toArray,List.set_cons_zero,List.set_cons_succ])
    clear hK K
    obtain ⟨sk,st,sf,se,sks⟩:=sq
    obtain ⟨sa,sc,rfl⟩:=kids_form hk5
    simp only [arg,five]
    refine wpAnyH_take (i:=6) (oi:=OP.p59) (v:=.pointer (some ⟨g,i*5,none⟩)) rfl (by kernel_rfl) (by kernel_rfl) (by kernel_rfl) (fun _ _ _ h=>h) (Or.inl ⟨by rfl,fun X hX=>(idx_row 38 39 g 0 n i vc X rfl rfl rfl hlt).trans (by rw [Nat.zero_add])⟩) hHeld5 ?_
    (try simp only [Act.put,List.setIfInBounds_toArray,List.set_cons_zero,List.set_cons_succ])
    obtain ⟨a1,cur,ys,a2,a3,a4,a5⟩:=HD1.out
    have hVg:g<V.heap.size:=(Array.getElem?_eq_some_iff.1 a2).1
    have c2:=(hb5.block g hVg).trans a2
    have hnc:=HG.out.1
    have hsz:i*5+5≤cur.size:=by omega
    obtain ⟨W',cur',hW',d1,d2,d3,d4,d5,d6⟩:=set5_at (.string (bstr sk)) (.string (bstr st)) (.int .i64 sf) (.int .i64 se) (.slice sa sks.length sc) c2 hsz
    have cl:∀ j,j<5→∃ u,w5.cell? ⟨g,i*5+j,none⟩=some u:=fun j hj=>by
     have hj5:i*5+j<cur.size:=Nat.lt_of_lt_of_le (Nat.add_lt_add_left hj _) hsz
     unfold World.cell?;rw [c2];exact ⟨cur[i*5+j]'hj5,Array.getElem?_eq_getElem hj5⟩
    obtain ⟨u0,q0⟩:∃ u,w5.cell? ⟨g,i*5,none⟩=some u:=cl 0 (by omega)
    obtain ⟨u1,q1⟩:=cl 1 (by omega)
    obtain ⟨u2,q2⟩:=cl 2 (by omega)
    obtain ⟨u3,q3⟩:=cl 3 (by omega)
    obtain ⟨u4,q4⟩:=cl 4 (by omega)
    have qf:∀ j,w5.frozen? ⟨g,j,none⟩=false:=fun j=>by simp [World.frozen?,c2]
    have hgK:g≠KB:=by have:=HG.out.2.1;have:=HWK.out;omega
    have hgP:g≠w.heap.size:=by omega
    have hgQ:g≠w.heap.size+1:=HG.out.2.2
    have hSf:Below w.heap.size w W'∧W'.heap[w.heap.size]?=_∧W'.heap[KB]?=_:=⟨hS5.1.trans (d6 _ (by omega)),(d5 _ (fun h=>hgP h.symm)).trans hS5.2.1,(d5 _ (fun h=>hgK h.symm)).trans hS5.2.2⟩
    have hHf:Half (w.heap.size+2) g b ks xs vc (i+1) W':=by
     have hyl:ys.length=i*5:=by have h:=PartsIn.length a4;rw [shiftL_length,List.length_take] at h;have:=HN.out;omega
     refine ⟨a1,cur',ys++five (.mk sk st sf se sks) (.slice sa sks.length sc),d1,by rw [d2];exact a3,?_,fun j u hj=>?_⟩
     ·rw [HTS.out]
      refine PartsIn.snoc (PartsIn.later (fun k hk hkl=>(d5 k hk.2).trans (hb5.block k hkl)) (fun _ h=>h) _ _ a4) (KidsIn.later (fun k hk _=>d5 k (by omega)) (fun k hk=>⟨by have:=hVb;have:=HD3.out;have:=HWW.out;omega,by omega⟩) _ _ hk5)
     ·by_cases h1:j<i*5
      ·rw [d4 j (.inl h1)]
       refine a5 j u ?_
       rw [List.append_assoc,List.getElem?_append_left (by omega)] at hj
       rw [List.getElem?_append_left (by omega)];exact hj
      ·by_cases h2:j<i*5+5
       ·obtain ⟨m,rfl⟩:∃ m,j=i*5+m:=⟨j - i*5,by omega⟩
        rw [List.append_assoc,List.getElem?_append_right (by omega),hyl,show i*5+m - i*5=m by omega,List.getElem?_append_left (by rw [five_length];omega)] at hj
        exact d3 m u hj
       ·rw [d4 j (.inr (by omega))]
        refine a5 j u ?_
        rw [List.getElem?_append_right (by rw [List.length_append,five_length];omega),List.length_append,five_length,List.getElem?_drop] at hj
        rw [List.getElem?_append_right (by omega),List.getElem?_drop,← hj]
        congr 1
        omega
    have hr5:=(d5 (w.heap.size+1) (fun h=>hgQ h.symm)).trans ((hb5.block _ (by have:=HD3.out;have:=HWW.out;omega)).trans HD2.out)
    have hgs:g<W'.heap.size:=(Array.getElem?_eq_some_iff.1 d1).1
    have HSf:=hid hSf
    have HHf:=hid hHf
    have HR5:=hid hr5
    have HGS:=hid hgs
    clear a1 a2 a3 a4 a5 c2 hsz cl d1 d2 d3 d4 d5 d6 hHf hr5 hgs hk5 hb5 hS5 hVg hgK hgP hgQ
    refine wpAnyH_ready (rs:=[7]) (by kernel_rfl) (by simp) ?_
    refine (AllReadyH.cons (o:=OP.p60) rfl (fun K hK=>?_) AllReadyH.nil)
    refine wanted_step (by kernel_rfl) ?_
    go_simp
    refine hK.out _ _ (HSf.out) (fun hHeld6=>?_)
    (try simp only [Act.put,List.setIfInBounds_toArray,List.set_cons_zero,List.set_cons_succ])
    clear hK K
    clear q0 q1 q2 q3 q4 qf hW' hSf hHeld6 hHeld5 hHeld
    refine wpAnyH_done (by kernel_rfl) ?_ _
    go_wp2_with fail
    go_roundw
    case rel=>exact ⟨i+1,by go_num,by omega,hid HSf.out.1,hid HSf.out.2.1,HR5,hid (.inr ⟨g,rfl,HG.out.1,HGS.out,HG.out.2.2,HHf.out⟩)⟩
    case measure=>simp [Go.RowKit.intOf];omega
   ·obtain rfl:i=n:=by omega
    have hk:i=0∨∃ g ys,va=some ⟨g,0,none⟩∧i≤vc∧w.heap.size+2≤g∧CellsAt wr g 0 ys∧PartsIn wr (fun k=>w.heap.size+2≤k) (shiftL b ks) ys∧∃ cur:Array Value,wr.heap[g]?=some (.cells cur 49 (0,0)):=by
     refine HH.out.imp id ?_
     rintro ⟨g,h1,h2,h3,h4,h5⟩
     obtain ⟨a1,cur,ys,a2,a3,a4,a5⟩:=h5
     rw [List.take_of_length_le (by rw [HN.out];exact Nat.le_refl _)] at a4
     have hdrop:xs.drop (i*5)=[]:=List.drop_eq_nil_of_le (by rw [HL.out];exact Nat.le_refl _)
     rw [hdrop,List.append_nil] at a5
     refine ⟨g,ys,h1,h2,a1,fun j u hj=>?_,PartsIn.later (fun _ _ _=>rfl) (fun _ h=>h.1) _ _ a4,cur,a2⟩
     rw [Nat.zero_add];unfold World.cell?;rw [a2];exact a5 j u hj
    have HK:=hid hk
    obtain ⟨⟨l0,l1,l2,l3,l4⟩,lf⟩:=cells_five HR.out
    clear hk
    go_wp2_with fail
    obtain ⟨Wf,hWf,f0,oth,hbf⟩:=set_five (.string kb) (.string tb) (.int .i64 f1) (.int .i64 e1) (.slice va i vc) HR.out
    rw [hWf]
    obtain ⟨⟨y0,y1,y2,y3,y4⟩,_⟩:=cells_five f0
    have hfin:=HFin.out Wf va vc (HB.out.trans (hbf _ (by omega))) (HK.out.imp id (fun ⟨g,ys,h1,h2,h3,h4,h5,h7⟩=>⟨g,ys,h1,h2,by omega,fun j u hj=>by
     have h6:=h4 j u hj
     unfold World.cell? at h6 ⊢
     rw [oth g (by omega)];exact h6,PartsIn.later (fun k hk _=>oth k (by omega)) (fun k hk=>by omega) _ _ h5,h7.imp (fun _ h=>(oth g (by omega)).trans h)⟩))
    clear hWf f0 oth hbf l0 l1 l2 l3 l4 lf k0 k1 k2 k3 k4 kf
    simp [bodyPost,results,Tryz.results38,go_sem,y0,y1,y2,y3,y4]
    exact hfin
end Go.Proofs.YtojoahlpgmnbnaaGreatDoor.J
namespace Go.Proofs.YtojoahlpgmnbnaaGreatDoor.Q
open Go.RowKit
open Go.Lib hiding intOf
open U S L
def pcC (p:PcP):List Value:=[.int .i64 p.f,.int .i64 p.e,.bool p.d,.bool p.j]
def pcCs:List PcP→List Value
 | []=>[]
 | p :: r=>pcC p++pcCs r
theorem pcCs_length:∀ l:List PcP,(pcCs l).length=4*l.length
 | []=>rfl
 | d :: r=>by simp only [pcCs,List.length_append,pcCs_length r,List.length_cons,pcC,List.length_nil];omega
theorem pcCs_app:∀ (a b:List PcP),pcCs (a++b)=pcCs a++pcCs b
 | [],b=>rfl
 | d :: r,b=>by simp only [List.cons_append,pcCs,pcCs_app r b,List.append_assoc]
theorem pcCs_at:∀ (l:List PcP) (i j:Nat) (hi:i<l.length),j<4→(pcCs l)[i*4+j]?=(pcC l[i])[j]?
 | [],i,j,hi,_=>by simp at hi
 | d :: r,0,j,hi,hj=>by simp only [pcCs,Nat.zero_mul,Nat.zero_add,List.getElem_cons_zero];rw [List.getElem?_append_left (by simp [pcC];omega)]
 | d :: r,i+1,j,hi,hj=>by
  simp only [pcCs,List.getElem_cons_succ]
  rw [List.getElem?_append_right (by simp [pcC];omega),show (i+1)*4+j - (pcC d).length=i*4+j by simp [pcC];omega]
  exact pcCs_at r i j (by simpa using hi) hj
def PcsAt (W:World) (g off:Nat) (l:List PcP):Prop:=∀ j u,(pcCs l)[j]?=some u→W.cell? ⟨g,off+j,none⟩=some u
theorem pc_at {W:World} {l:List PcP} {g off:Nat} (i:Nat) (hc:PcsAt W g off l) (hi:i<l.length) :
  W.cell? ⟨g,off+i*4,none⟩=some (.int .i64 l[i].f)∧W.cell? ⟨g,off+i*4+1,none⟩=some (.int .i64 l[i].e)∧W.cell? ⟨g,off+i*4+2,none⟩=some (.bool l[i].d)∧W.cell? ⟨g,off+i*4+3,none⟩=some (.bool l[i].j):=by
 refine ⟨hc (i*4) _ ?_,hc (i*4+1) _ (by rw [pcCs_at l i 1 hi (by omega)];rfl),hc (i*4+2) _ (by rw [pcCs_at l i 2 hi (by omega)];rfl),hc (i*4+3) _ (by rw [pcCs_at l i 3 hi (by omega)];rfl)⟩
 have:=pcCs_at l i 0 hi (by omega)
 rw [Nat.add_zero] at this;rw [this];rfl
def PcsIn (B:Nat) (W:World) (l:List PcP) (v:Value):Prop:=∃ a cap,v=.slice a l.length cap∧l.length≤cap∧(l=[]∨∃ g off,a=some ⟨g,off,none⟩∧B≤g∧g<W.heap.size∧PcsAt W g off l)
theorem PcsIn.later {B:Nat} {W W':World} {l:List PcP} {v:Value} (h:PcsIn B W l v) (hb:Below W.heap.size W W'):PcsIn B W' l v:=by
 obtain ⟨a,cap,h1,h2,h3⟩:=h
 refine ⟨a,cap,h1,h2,?_⟩
 rcases h3 with h3|⟨g,off,h4,h5,h6,h7⟩
 ·exact .inl h3
 ·exact .inr ⟨g,off,h4,h5,Nat.lt_of_lt_of_le h6 hb.size,fun j u hj=>(hb.cell (p:=⟨g,off+j,none⟩) h6).trans (h7 j u hj)⟩
theorem pcs_at {w:World} {B n c g:Nat} {l:List PcP} {t:TypeId} (h:w.ownsRow B t 4 (.slice (some ⟨g,0,none⟩) n c) n (pcCs l)) (hn:l.length=n):PcsAt w g 0 l:=fun j u hj=>by
 have hj2:=(List.getElem?_eq_some_iff.1 hj).1
 rw [pcCs_length] at hj2
 rw [Nat.zero_add,h.cellAt j (by omega)]
 exact hj
theorem pcs_row {w:World} {B B' n:Nat} {l:List PcP} {v:Value} {t:TypeId} (h:w.ownsRow B' t 4 v n (pcCs l)) (hn:l.length=n) (hB:B≤B'):PcsIn B w l v:=by
 rcases Nat.eq_zero_or_pos n with h0|h0
 ·have hl:l=[]:=List.length_eq_zero_iff.1 (hn.trans h0)
  rcases h.2 with ⟨rfl,_⟩|⟨g,cap,cur,rfl,_⟩
  ·exact ⟨none,0,by rw [hl];rfl,by rw [hl];simp,.inl hl⟩
  ·exact ⟨_,cap,by rw [hn],by rw [hl];simp,.inl hl⟩
 ·obtain ⟨g,c,rfl,hc,hg,_⟩:=row_some h h0
  exact ⟨_,c,by rw [hn],by omega,.inr ⟨g,0,rfl,by omega,(h.lt g rfl).2,pcs_at h hn⟩⟩
theorem plain_pcs:∀ (l:List PcP),∀ u∈pcCs l,u.oneCell'=true
 | [],u,h=>by simp [pcCs] at h
 | d :: r,u,h=>by
  simp only [pcCs,List.mem_append] at h
  rcases h with h|h
  ·simp only [pcC,List.mem_cons,List.not_mem_nil,or_false] at h
   rcases h with rfl|rfl|rfl|rfl <;> rfl
  ·exact plain_pcs r u h
theorem infoP:(Tryz.prog.info? 67).map (fun i=>(i.zero,i.size,i.bytes))=some (some (.agg #[.int .i64 0,.int .i64 0,.bool false,.bool false]),4,24):=by kernel_rfl
theorem one_pc {w:World} {q:Nat} {p:PcP} {t:TypeId} (h:w.heap[q]?=some (.cells #[.int .i64 p.f,.int .i64 p.e,.bool p.d,.bool p.j] t (0,0))) :
  ∀ k u,(pcCs [p])[k]?=some u→w.cell? ((⟨q,0,none⟩:Addr).add k)=some u:=fun k u hk=>by
 rw [Addr.add_lit,Nat.zero_add]
 have hk2:=(List.getElem?_eq_some_iff.1 hk).1
 rw [pcCs_length] at hk2
 simp only [pcCs,pcC,List.append_nil] at hk
 match k,hk2 with
 | 0,_=>simp at hk;subst hk;simp [World.cell?,h]
 | 1,_=>simp at hk;subst hk;simp [World.cell?,h]
 | 2,_=>simp at hk;subst hk;simp [World.cell?,h]
 | 3,_=>simp at hk;subst hk;simp [World.cell?,h]
theorem new_pc (W:World) (f e:Nat) (d j:Bool) (t:TypeId):∀ k u,(pcCs [⟨f,e,d,j⟩])[k]?=some u→(W.alloc (.cells #[.int .i64 f,.int .i64 e,.bool d,.bool j] t)).cell? ((⟨W.heap.size,0,none⟩:Addr).add k)=some u:=one_pc (p:=⟨f,e,d,j⟩) (World.alloc_heap_new W _)
end Go.Proofs.YtojoahlpgmnbnaaGreatDoor.Q
namespace Go.Proofs.YtojoahlpgmnbnaaGreatDoor.Ud
open Go.RowKit
open Go.Lib hiding intOf
open U S Q T J
open Go.Proofs.YtojoahlpgmnbnaaGreatDoor.K (declP MTab DeclPost DeclOwn zeroP Nn NnL fate_nn)
def ten (d:DcP) (lv:Value):List Value:=.int .i64 d.f :: .int .i64 d.e :: .string d.tx :: (five d.p lv++[.int .i64 d.a,.int .i64 d.r])
theorem ten_length (d:DcP) (lv:Value):(ten d lv).length=10:=by unfold ten;simp [five_length]
def DcAt (W:World) (R:Nat→Prop) (g o:Nat) (d:DcP):Prop:=∃ lv,CellsAt W g o (ten d lv)∧KidsIn W R d.p lv
def DcsIn (B:Nat) (R:Nat→Prop) (W:World) (l:List DcP) (v:Value):Prop :=
 ∃ a cap,v=.slice a l.length cap∧l.length≤cap∧(l=[]∨∃ g off,a=some ⟨g,off,none⟩∧B≤g∧g<W.heap.size∧∀ i (hi:i<l.length),DcAt W R g (off+i*10) l[i])
theorem cells_below {W W':World} {g o:Nat} {xs:List Value} (h:CellsAt W g o xs) (hb:Below W.heap.size W W'):CellsAt W' g o xs:=fun j u hj=>(hb.cell (World.block_lt_of_cell? W _ (h j u hj))).trans (h j u hj)
theorem DcAt.later {W W':World} {R:Nat→Prop} {g o:Nat} {d:DcP} (h:DcAt W R g o d) (hb:Below W.heap.size W W'):DcAt W' R g o d:=by
 obtain ⟨lv,h1,h2⟩:=h
 exact ⟨lv,cells_below h1 hb,kids_below h2 hb⟩
theorem DcsIn.later {B:Nat} {R:Nat→Prop} {W W':World} {l:List DcP} {v:Value} (h:DcsIn B R W l v) (hb:Below W.heap.size W W'):DcsIn B R W' l v:=by
 obtain ⟨a,c,h1,h2,h3⟩:=h
 refine ⟨a,c,h1,h2,h3.imp id ?_⟩
 rintro ⟨g,off,e1,e2,e3,e4⟩
 exact ⟨g,off,e1,e2,Nat.lt_of_lt_of_le e3 hb.size,fun i hi=>(e4 i hi).later hb⟩
theorem DcsIn.weak {B B':Nat} {R R':Nat→Prop} {W:World} {l:List DcP} {v:Value} (h:DcsIn B R W l v) (hB:B'≤B) (hR:∀ k,R k→R' k):DcsIn B' R' W l v:=by
 obtain ⟨a,c,h1,h2,h3⟩:=h
 refine ⟨a,c,h1,h2,h3.imp id ?_⟩
 rintro ⟨g,off,e1,e2,e3,e4⟩
 refine ⟨g,off,e1,by omega,e3,fun i hi=>?_⟩
 obtain ⟨lv,k1,k2⟩:=e4 i hi
 exact ⟨lv,k1,KidsIn.later (fun _ _ _=>rfl) hR _ _ k2⟩
theorem DcsIn.nil (B:Nat) (R:Nat→Prop) (W:World):DcsIn B R W [] (.slice none 0 0):=⟨none,0,rfl,Nat.le_refl _,.inl rfl⟩
structure DAt (W:World) (R:Nat→Prop) (d:DcP) (g o f e:Nat) (tx:ByteArray) (k t:By) (pf pe:Int) (ks:List Pt) (a:Option Addr) (c:Nat) (x r:Int):Prop where
 eq:d=⟨f,e,tx,.mk k t pf pe ks,x,r⟩
 kids:KidsIn W R (.mk k t pf pe ks) (.slice a ks.length c)
 c0:W.cell? ⟨g,o,none⟩=some (.int .i64 f)
 c1:W.cell? ⟨g,o+1,none⟩=some (.int .i64 e)
 c2:W.cell? ⟨g,o+2,none⟩=some (.string tx)
 c3:W.cell? ⟨g,o+3,none⟩=some (.string (bstr k))
 c4:W.cell? ⟨g,o+3+1,none⟩=some (.string (bstr t))
 c5:W.cell? ⟨g,o+3+2,none⟩=some (.int .i64 pf)
 c6:W.cell? ⟨g,o+3+3,none⟩=some (.int .i64 pe)
 c7:W.cell? ⟨g,o+3+4,none⟩=some (.slice a ks.length c)
 c8:W.cell? ⟨g,o+8,none⟩=some (.int .i64 x)
 c9:W.cell? ⟨g,o+9,none⟩=some (.int .i64 r)
theorem dc_at {W:World} {R:Nat→Prop} {g o:Nat} {d:DcP} (h:DcAt W R g o d):∃ f e tx k t pf pe ks a c x r,DAt W R d g o f e tx k t pf pe ks a c x r:=by
 obtain ⟨lv,h1,h2⟩:=h
 obtain ⟨f,e,tx,⟨k,t,pf,pe,ks⟩,x,r⟩:=d
 obtain ⟨a,c,rfl⟩:=kids_form h2
 exact ⟨f,e,tx,k,t,pf,pe,ks,a,c,x,r,rfl,h2,h1 0 _ rfl,h1 1 _ rfl,h1 2 _ rfl,h1 3 _ rfl,h1 4 _ rfl,h1 5 _ rfl,h1 6 _ rfl,h1 7 _ rfl,h1 8 _ rfl,h1 9 _ rfl⟩
theorem DAt.below {W W':World} {R:Nat→Prop} {d:DcP} {g o f e:Nat} {tx:ByteArray} {k t:By} {pf pe:Int} {ks:List Pt} {a:Option Addr} {c:Nat} {x r:Int} (h:DAt W R d g o f e tx k t pf pe ks a c x r) (hb:Below W.heap.size W W'):DAt W' R d g o f e tx k t pf pe ks a c x r :=
 have cl:∀ {o:Nat} {v:Value},W.cell? ⟨g,o,none⟩=some v→W'.cell? ⟨g,o,none⟩=some v:=fun h=>(hb.cell (World.block_lt_of_cell? W _ h)).trans h
 ⟨h.eq,kids_below h.kids hb,cl h.c0,cl h.c1,cl h.c2,cl h.c3,cl h.c4,cl h.c5,cl h.c6,cl h.c7,cl h.c8,cl h.c9⟩
theorem dcs_form {B:Nat} {R:Nat→Prop} {W:World} {l:List DcP} {v:Value} (h:DcsIn B R W l v):∃ a c,v=.slice a l.length c:=by
 obtain ⟨a,c,h1,_⟩:=h
 exact ⟨a,c,h1⟩
theorem dcs_row {B:Nat} {R:Nat→Prop} {W:World} {l:List DcP} {a:Option Addr} {n c:Nat} (h:DcsIn B R W l (.slice a n c)):n=l.length∧l.length≤c∧(l=[]∨∃ g off,a=some ⟨g,off,none⟩∧B≤g∧g<W.heap.size∧∀ i (hi:i<l.length),DcAt W R g (off+i*10) l[i]):=by
 obtain ⟨a',c',h1,h2,h3⟩:=h
 cases h1
 exact ⟨rfl,h2,h3⟩
theorem nn_decl (t:ByteArray):NnL (kidsP (declT t).1):=by
 unfold declT declP
 cases hf:K.fate (scanB (okB t) t.toList) with
 | bad j=>exact K.NnL.nil
 | part p =>
  simp only
  split
  ·exact K.NnL.nil
  ·have h:=fate_nn hf
   cases p
   unfold Nn at h
   exact h.2
mutual
theorem shift0_map (F E:Int→Int) (hF:∀ x,wrap64 (F x+0)=F x) (hE:∀ x,wrap64 (E x+0)=E x):∀ p,shiftP 0 (K.mapP F E p)=K.mapP F E p
 | .mk k t f e ks=>by
  rw [K.mapP,shiftP,shift0_mapL F E hF hE ks]
  unfold moved
  rw [hF,hE]
  simp
theorem shift0_mapL (F E:Int→Int) (hF:∀ x,wrap64 (F x+0)=F x) (hE:∀ x,wrap64 (E x+0)=E x):∀ l,shiftL 0 (K.mapL F E l)=K.mapL F E l
 | []=>by rw [K.mapL,shiftL]
 | p :: r=>by rw [K.mapL,shiftL,shift0_map F E hF hE p,shift0_mapL F E hF hE r]
end
theorem wrap_small {x:Int} (h0:0≤x) (h1:x≤1000000000000):wrap64 (x+0)=x:=by
 unfold wrap64
 omega
theorem shift0_decl (t:ByteArray) (ht:t.size≤1000000000000):shiftP 0 (declT t).1=(declT t).1:=by
 unfold declT declP
 have hr:=scan_rises (okB t) t.toList
 have hl:=tl_len t
 generalize scanB (okB t) t.toList=L at hr
 rw [K.fate_idx (L:=L) (L':=L) rfl]
 have hb:∀ (i:Nat) (u:TokP),L[i]?=some u→0≤u.f∧u.f≤1000000000000∧0≤u.e∧u.e≤1000000000000:=fun i u h=>by
  have:=K.rises_at hr i u h
  omega
 have hF:∀ x,wrap64 (K.FF L x+0)=K.FF L x:=fun x=>by
  apply wrap_small
  ·unfold K.FF;split
   ·omega
   ·split
    ·rename_i u hu;have:=hb _ u hu;omega
    ·omega
  ·unfold K.FF;split
   ·omega
   ·split
    ·rename_i u hu;have:=hb _ u hu;omega
    ·omega
 have hE:∀ x,wrap64 (K.EE L x+0)=K.EE L x:=fun x=>by
  apply wrap_small
  ·unfold K.EE;split
   ·omega
   ·split
    ·rename_i u hu;have:=hb _ u hu;omega
    ·omega
  ·unfold K.EE;split
   ·omega
   ·split
    ·rename_i u hu;have:=hb _ u hu;omega
    ·omega
 cases K.fate (K.idxT L) with
 | bad j=>rfl
 | part p =>
  simp only [K.Fate.map]
  split
  ·rfl
  ·exact shift0_map _ _ hF hE p
mutual
theorem kids_cells {W W':World} (hX:∀ b o (k t:By) (f e:Int) (ks:List Pt) (lv:Value),k≠[]→CellsAt W b o (five (.mk k t f e ks) lv)→CellsAt W' b o (five (.mk k t f e ks) lv)):∀ (p:Pt) (lv:Value),NnL (kidsP p)→KidsIn W (fun _=>True) p lv→KidsIn W' (fun _=>True) p lv
 | .mk k t f e ks,lv,hn,h=>by
  obtain ⟨a,cap,h1,h0,h2⟩:=h
  refine ⟨a,cap,h1,h0,h2.imp id ?_⟩
  rintro ⟨g,off,xs,e1,_,e3,e4⟩
  obtain ⟨r1,r2⟩:=parts_cells hX ks xs g off hn e3 e4
  exact ⟨g,off,xs,e1,trivial,r1,r2⟩
theorem parts_cells {W W':World} (hX:∀ b o (k t:By) (f e:Int) (ks:List Pt) (lv:Value),k≠[]→CellsAt W b o (five (.mk k t f e ks) lv)→CellsAt W' b o (five (.mk k t f e ks) lv)):∀ (l:List Pt) (xs:List Value) (g off:Nat),NnL l→CellsAt W g off xs→PartsIn W (fun _=>True) l xs→CellsAt W' g off xs∧PartsIn W' (fun _=>True) l xs
 | [],xs,g,off,_,hc,h=>by
  have h:xs=[]:=h
  subst h
  exact ⟨fun j u hj=>by simp at hj,rfl⟩
 | .mk k t f e ks :: r,xs,g,off,hn,hc,h=>by
  obtain ⟨lv,rest,rfl,h2,h3⟩:=h
  unfold NnL Nn at hn
  have hl:=five_length (.mk k t f e ks) lv
  have c1:CellsAt W g off (five (.mk k t f e ks) lv):=fun j u hj=>hc j u (by rw [List.getElem?_append_left (List.getElem?_eq_some_iff.1 hj).1];exact hj)
  have c2:CellsAt W g (off+5) rest:=fun j u hj=>by
   have:=hc (5+j) u (by rw [List.getElem?_append_right (by omega),hl,show 5+j - 5=j by omega];exact hj)
   rw [show off+5+j=off+(5+j) by omega]
   exact this
  have d1:=hX g off k t f e ks lv hn.1.1 c1
  obtain ⟨d2,d3⟩:=parts_cells hX r rest g (off+5) hn.2 c2 h3
  refine ⟨fun j u hj=>?_,lv,rest,rfl,kids_cells hX _ lv hn.1.2 h2,d3⟩
  by_cases hj5:j<5
  ·rw [List.getElem?_append_left (by omega)] at hj
   exact d1 j u hj
  ·rw [List.getElem?_append_right (by omega),hl] at hj
   have:=d2 (j - 5) u hj
   rw [show off+5+(j - 5)=off+j by omega] at this
   exact this
end
end Go.Proofs.YtojoahlpgmnbnaaGreatDoor.Ud
namespace Go.Proofs.YtojoahlpgmnbnaaGreatDoor.Q
open Go.RowKit
def Steps {σ α:Type} (P:Program) (gf:Nat) (lb:Array Value) (encs:α→Array Value) (k:Nat) (R:σ→α→σ→Prop) (s0:σ) (S:σ→Prop) (w:World):Prop :=
 ∀ (l:Nat) (J:σ→World→Prop) (W:World),Below w.heap.size w W →
  (∀ s x s' W1,R s x s'→J s W1→YieldAt Fence.wide 2 P l (encs x) W1 fun e W2=>e=.returned (.bool true)∧J s' W2∧W2.heap[k]?=W1.heap[k]?)→J s0 W →
  CallsIn Fence.wide 3 P gf (#[.func (.yield l) #[] #[]]++lb) W fun e W2=>(∃ v,e=.returned v)∧∃ s,S s∧J s W2
def goesOn (k:Nat) (J:World→Prop) (W:World):Exit→Act→World→Prop
 | .normal,_,W2=>KeepsOthers W W2∧W2.heap[k]?=W.heap[k]?∧J W2
 | .ret,_,_=>False
 | .exit _,_,_=>False
 | .goto _,_,_=>False
 | .panic _,_,_=>False
 | .outgrown,_,_=>False
theorem wp_steps {σ α:Type} {P:Program} {g:Operand} {ps:Array Tmp} {assign body:Code} {Q:Exit→Act→World→Prop} {a:Act} {w w0:World} {gf k:Nat} {lb:Array Value} {encs:α→Array Value} {R:σ→α→σ→Prop} {s0:σ} {S:σ→Prop}
  (hg:a.eval g=.func (.func gf) #[] lb) (eg:∀ args w,(callFunc gf args).run P w=.ok (.enter gf args) w) (hseq:Steps P gf lb encs k R s0 S w0) (hb0:Below w0.heap.size w0 w) (hn0:k<w.heap.size) (hps:∀ x,(encs x).size=ps.size)
  (I:σ→World→Prop) (hI:OwnFrom w.heap.size I) (h0:I s0 w) (a1:α→Act)
  (hassign:∀ (l:Nat) (x:α) (W:World) (K:Act→World→Prop),K (a1 x) W→assign.wpIn (Fence.wide.inRound l) 2 P (Exit.then K (fun _ _ _=>False)) { tmps:=(ps.zip (encs x)).foldl (fun t (p,v)=>t.setIfInBounds p v) a.tmps,defers:=[] } W)
  (hbody:∀ (l:Nat) (s:σ) (x:α) (s':σ) (W:World),R s x s'→I s W→body.wpIn (Fence.wide.inRound l) 2 P (goesOn k (I s') W) (a1 x) W)
  (hdone:∀ (D:Nat) (s:σ) (W:World),w.heap.size≤D→S s→I s W→W.heap[D]?=some (.deferred (some []))→Q .normal { a with defers:={ target:=.collected D,args:=#[] } :: a.defers } W) :
  (Code.rangeFunc g ps assign body).wp P Q a w:=by
 refine (wpIn_wide (n:=4)).1 (wpIn_rangeFunc fun fn hfn=>?_)
 obtain ⟨D,hD⟩:∃ D,w.heap.size=D:=⟨_,rfl⟩
 obtain ⟨rec,hrec⟩:∃ rec:LoopState→Loop,rec=fun st=>{ state:=st,pending:=none,fn,tmps:=a.tmps,params:=ps,assign,body,defers:=D }:=⟨_,rfl⟩
 obtain ⟨W1,hW1⟩:∃ W1,(w.alloc (.deferred (some []))).alloc (.loop (rec .ready))=W1:=⟨_,rfl⟩
 have hK1:W1.heap[D]?=some (.deferred (some [])):=by
  rw [← hW1,← hD];exact (Below.heap_alloc _ _ _ (by simp)).trans (World.alloc_heap_new w _)
 have hL1:W1.heap[D+1]?=some (.loop (rec .ready)):=by
  have h:=World.alloc_heap_new (w.alloc (.deferred (some []))) (.loop (rec .ready))
  rw [World.size_alloc,hD,hW1] at h
  exact h
 have hI1:I s0 W1:=by rw [← hW1];exact hI.alloc _ (hI.alloc _ h0)
 have hb1:Below w0.heap.size w0 W1:=by
  rw [← hW1];exact hb0.trans ((((Below.refl _ w).alloc (Nat.le_refl _) _).alloc (by simp) _).mono hb0.size)
 have henter:=run_enterLoop_outer (P:=P) (w:=w) fn a.tmps ps assign body
 rw [hD] at henter
 refine ⟨D+1,[{ target:=.collected D,args:=#[] }],W1,{ target:=.fn (.func gf) lb,args:=#[.func (.yield (D+1)) #[] #[]] },W1,gf,#[.func (.yield (D+1)) #[] #[]]++lb,W1,?_,?_,fun _ _=>trivial,?_,fun h=>by (simp [Fence.wide] at h),?_⟩
 ·rw [Fence.wide_round,← hW1,hrec]
  exact henter
 ·simp only [resolve,hg]
  simp [go_sem]
 ·simp [invoke,go_sem,eg]
 ·rw [hD] at hI hn0
  refine (hseq (D+1) (fun s W=>I s W∧W.heap[D+1]?=some (.loop (rec .ready))∧W.heap[D]?=some (.deferred (some []))) W1 hb1 ?_ ⟨hI1,hL1,hK1⟩).mono ?_
  ·-- a round
   rintro s x s' W hR ⟨hi,hl,hk⟩
   have hlt:D+1<W.heap.size:=(Array.getElem?_eq_some_iff.1 hl).1
   obtain ⟨W2,hW2⟩:∃ W2,W.putObj (D+1) (.loop (rec .busy))=W2:=⟨_,rfl⟩
   have hl2:W2.heap[D+1]?=some (.loop (rec .busy)):=by rw [← hW2];exact World.putObj_heap_same hlt
   have hk2:W2.heap[D]?=some (.deferred (some [])):=by rw [← hW2];exact (World.putObj_heap_other (by omega)).trans hk
   have hi2:I s W2:=by rw [← hW2];exact hI.putObj _ hi (by omega) hl rfl
   have hb2:W2.heap[k]?=W.heap[k]?:=by rw [← hW2];exact World.putObj_heap_other (by omega)
   have hbegin:(Instr.beginRound (D+1)).run P W=.ok () W2:=by
    have h:=run_beginRound (P:=P) hl (by rw [hrec])
    rw [← hW2,h,hrec]
   have hy:=run_yield (P:=P) (args:=encs x) hl (by rw [hrec];exact hps x)
   rw [hrec] at hy
   refine ⟨fn,_,assign,body,hy,roundIn_of_wpIn hfn (hassign _ x W _ ⟨_,hbegin,wpIn_mono (hbody _ s x s' W2 hR hi2) ?_⟩)⟩
   rintro e a3 W3 hp
   cases e with
   | normal =>
    obtain ⟨hko,hb3,hi3⟩:=hp
    have hl3:=hko.same _ _ hl2 rfl
    have hk3:=hko.same _ _ hk2 rfl
    have hlt3:D+1<W3.heap.size:=(Array.getElem?_eq_some_iff.1 hl3).1
    have hend:=run_endRound (P:=P) none hl3
    have hb4:(W3.putObj (D+1) (.loop (rec .ready))).heap[k]?=W3.heap[k]?:=World.putObj_heap_other (by omega)
    refine ⟨_,W3.putObj (D+1) (.loop (rec .ready)),?_,rfl,⟨hI.putObj _ hi3 (by omega) hl3 rfl,World.putObj_heap_same hlt3,(World.putObj_heap_other (by omega)).trans hk3⟩,hb4.trans (hb3.trans hb2)⟩
    rw [hrec] at hend ⊢
    exact hend
   | ret=>exact hp.elim
   | exit id=>exact hp.elim
   | goto t=>exact hp.elim
   | panic ch=>exact hp.elim
   | outgrown=>exact hp.elim
  ·-- behind the iterator
   rintro e W2 ⟨⟨v,rfl⟩,s,hS,hi,hl,hk⟩
   have hend:=run_endLoop (P:=P) hl (by rw [hrec];simp)
   have hp:(rec .ready).pending=none:=by rw [hrec]
   rw [hp] at hend
   exact ⟨none,_,hend,hdone D s _ (by omega) hS (hI.putObj _ hi (by omega) hl rfl) ((World.putObj_heap_other (by omega)).trans hk)⟩
end Go.Proofs.YtojoahlpgmnbnaaGreatDoor.Q
namespace Go.Proofs.YtojoahlpgmnbnaaGreatDoor.Q
open Go.RowKit
open Go.Lib hiding intOf
open U S L
set_option maxHeartbeats 4000000 in
set_option maxRecDepth 20000 in
theorem declares_any (s:ByteArray) (w:World) (hs:s.size≤1099511627776) (hT:Tabs w) :
  Calls Tryz.prog 47 #[.string s] w fun e w'=>e=.returned (.bool (declW s.toList))∧Below w.heap.size w w':=by
 have cS:=scan_any s w hs hT
 obtain ⟨h0,h1⟩:=declW_scan (okB s) s.toList
 obtain ⟨L,hL⟩:∃ L,scanB (okB s) s.toList=L:=⟨_,rfl⟩
 rw [hL] at cS h0 h1
 obtain ⟨R,hR⟩:∃ R,declW s.toList=R:=⟨_,rfl⟩
 rw [hR] at h0 h1 ⊢
 clear hL hR hs
 cases L with
 | nil =>
  obtain rfl:=h0 rfl
  clear h0 h1
  go_enter Tryz.func47,Tryz.ntmps47
  go_wp2_with fail
  refine cS.mono ?_
  rintro e w1 ⟨v,rfl,hv,hb1⟩
  obtain ⟨a,cap,rfl,_,_⟩:=hv
  clear cS
  go_wp2_with fail
  go_ret
  exact ⟨rfl,hb1⟩
 | cons t u =>
  obtain ⟨h2,h3⟩:=h1 t u rfl
  have H2:=hid h2
  have H3:=hid h3
  clear h0 h1 h2 h3
  go_enter Tryz.func47,Tryz.ntmps47
  go_wp2_with fail
  refine cS.mono ?_
  rintro e w1 ⟨v,rfl,hv,hb1⟩
  obtain ⟨a,cap,rfl,_,hc⟩:=hv
  obtain ⟨g,off,rfl,_,_,hat⟩:=hc.resolve_left (by simp)
  obtain ⟨c0,c1,c2,c3⟩:=tok_at 0 hat (by simp)
  simp only [List.getElem_cons_zero,Nat.zero_mul,Nat.add_zero] at c0 c1 c2 c3
  obtain ⟨n,hn⟩:∃ n,(t :: u).length=n:=⟨_,rfl⟩
  have hn0:0<n:=by rw [← hn];simp
  have hn1:¬ ((n:Int)=0):=by omega
  rw [hn]
  obtain ⟨x,hx⟩:∃ x:ByteArray,(⟨t.t.toArray⟩:ByteArray)=x:=⟨_,rfl⟩
  have HX:Hid (t.t=x.toList):=hid (by rw [← hx,ByteArray.toList_eq])
  rw [hx] at c1
  have HB:=hid hb1
  clear cS hat hc hn hx hb1
  by_cases hf:0<t.f
  ·obtain rfl:=H2.out hf
   go_wp2_with fail
   go_ret
   exact ⟨rfl,HB.out⟩
  ·have hR:Hid (R=kw x.toList):=hid (by rw [H3.out (by omega),HX.out])
   have hfd:decide (0<t.f)=false:=by simpa using hf
   clear hf
   go_wp2_with fail
   all_goals (go_ret;exact ⟨retB (by first|(exfalso;omega)|(exfalso;simp_all;done)|(rw [hR.out];simp only [kw, *];rfl)|(rw [hR.out];simp [kw, *];done)|(rw [hR.out];simp_all [kw];done)),HB.out⟩)
theorem lines_make (s:ByteArray) (w:World):Calls Tryz.prog 46 #[.string s] w fun e w'=>e=.returned (.func (.func 69) #[] #[.pointer (some ⟨w.heap.size,0,none⟩)])∧w'=w.alloc (.cells #[.string s] 9):=by
 go_enter Tryz.func46,Tryz.ntmps46
 go_wp2_with fail
 go_ret
 exact ⟨rfl,rfl⟩
structure LineAt (l:By) (p q:Nat):Prop where
 pq:p≤q
 ql:q≤l.length
 ahead:p=0∨l[p - 1]?=some 10
 within:∀ k,p≤k→k+1<q→l[k]?≠some 10
 behind:q=l.length∨(p<q∧l[q - 1]?=some 10)
def NextL (l:By) (o:Option Nat) (x:Nat × Nat) (o':Option Nat):Prop:=LineAt l x.1 x.2∧((o=none∧x.1=0)∨(o=some x.1∧0<x.1))∧o'=some x.2
def encL (s:ByteArray) (x:Nat × Nat):Array Value:=#[.int .i64 x.1,.string (s.extract x.1 x.2)]
attribute [local go_sem] Oper.semAt_some
set_option maxHeartbeats 4000000 in
set_option maxRecDepth 20000 in
theorem lines_steps (s:ByteArray) (k:Nat) (w:World) (hk:w.heap[k]?=some (.cells #[.string s] 9 (0,0))) (hs:s.size≤1099511627776) :
  Steps Tryz.prog 69 #[.pointer (some ⟨k,0,none⟩)] (encL s) k (NextL s.toList) none (fun o=>o=some s.size) w:=by
 intro l J W hW hY h0
 have hkw:k<w.heap.size:=(Array.getElem?_eq_some_iff.1 hk).1
 have hk0:W.heap[k]?=some (.cells #[.string s] 9 (0,0)):=(hW.block k hkw).trans hk
 have HY:=hid hY
 have HK0:=hid hk0
 clear hY hW hk hkw
 refine callsIn_of_wp Tryz.func69 rfl trivial ?_ rfl
 simp only [Tryz.ntmps69,List.size_toArray,List.length_cons,List.length_nil,Nat.reduceAdd,Nat.reduceSub,Array.replicate_succ,Array.replicate_zero,List.push_toArray,List.append_toArray,List.nil_append,List.cons_append]
 have hc0:W.cell? ⟨k,0,none⟩=some (.string s):=by simp [World.cell?,hk0]
 clear hk0
 gi_wp2
 gi_loopw [3,7] (fun fv iv wr=>∃ (f i:Nat) (o:Option Nat),fv=.int .i64 f∧iv=.int .i64 i∧f≤i∧i≤s.size∧Hid (J o wr)∧Hid ((o=none∧f=0)∨(o=some f∧0<f))∧Hid (f=0∨s.toList[f - 1]?=some 10)∧Hid (∀ j,f≤j→j<i→s.toList[j]?≠some 10)∧Hid (wr.heap[k]?=some (.cells #[.string s] 9 (0,0)))) (fun _ iv _=>s.size - (intOf iv).toNat)
 case atStart=>exact ⟨0,0,none,rfl,rfl,Nat.le_refl _,Nat.zero_le _,hid h0,hid (.inl ⟨rfl,rfl⟩),hid (.inl rfl),hid (fun j _ h=>absurd h (by omega)),HK0⟩
 case round =>
  obtain ⟨f,i,o,rfl,rfl,hfi,hi,HJ,HO,HA,HI,HK⟩:=hrel
  have hc:wr.cell? ⟨k,0,none⟩=some (.string s):=by simp [World.cell?,HK.out]
  clear hc0
  by_cases hlt:i<s.size
  ·have hget:=tl_get s hlt
   have e0:IntKind.i64.wrap ((i:Int)+1)=(i:Int)+1:=IntWalk.i64_in _ (by omega)
   obtain ⟨z,hz⟩:∃ z,s[i]=z:=⟨_,rfl⟩
   rw [hz] at hget
   have HG:=hid hget
   clear hget
   by_cases h10:z.toNat=10
   ·obtain rfl:z=10:=UInt8.toNat_inj.1 h10
    have HL:Hid (LineAt s.toList f (i+1)):=hid ⟨by omega,by rw [tl_len];omega,HA.out,fun j h1 h2=>HI.out j h1 (by omega),.inr ⟨by omega,HG.out⟩⟩
    obtain ⟨fn,tmps,assign,body,hy,hR⟩:=HY.out o (f,i+1) (some (i+1)) wr ⟨HL.out,HO.out,rfl⟩ HJ.out
    dsimp only [encL] at hy
    have hin0:(0:Int)≤(f:Int):=by omega
    have hin1:(f:Int)≤(i:Int)+1:=by omega
    have hin2:(i:Int)+1≤(s.size:Int):=by omega
    have hin3:f≤i+1:=by omega
    have hin4:i+1≤s.size:=by omega
    gi_wp2
    refine hR.mono ?_
    rintro e W3 ⟨rfl,hJ3,hk3⟩
    have HJ3:=hid hJ3
    have HK3:Hid (W3.heap[k]?=some (.cells #[.string s] 9 (0,0))):=hid (hk3.trans HK.out)
    clear hJ3 hk3
    gi_wp2
    go_roundw
    case rel=>exact ⟨i+1,i+1,some (i+1),by go_num,by go_num,Nat.le_refl _,by omega,HJ3,hid (.inr ⟨rfl,by omega⟩),hid (.inr HG.out),hid (fun j _ _=>by omega),HK3⟩
    case measure=>simp [intOf];omega
   ·have HI2:Hid (∀ j,f≤j→j<i+1→s.toList[j]?≠some 10):=hid (fun j h1 h2=>by
     by_cases hj:j<i
     ·exact HI.out j h1 hj
     ·obtain rfl:j=i:=by omega
      rw [HG.out]
      intro e
      apply h10
      rw [Option.some.inj e];rfl)
    gi_wp2
    go_roundw
    case rel=>exact ⟨f,i+1,o,rfl,by go_num,by omega,by omega,HJ,HO,HA,HI2,HK⟩
    case measure=>simp [intOf];omega
  ·obtain rfl:i=s.size:=by omega
   have HL:Hid (LineAt s.toList f s.size):=hid ⟨by omega,by rw [tl_len];exact Nat.le_refl _,HA.out,fun j h1 h2=>HI.out j h1 (by omega),.inl (tl_len s).symm⟩
   obtain ⟨fn,tmps,assign,body,hy,hR⟩:=HY.out o (f,s.size) (some s.size) wr ⟨HL.out,HO.out,rfl⟩ HJ.out
   dsimp only [encL] at hy
   gi_wp2
   refine hR.mono ?_
   rintro e W3 ⟨rfl,hJ3,hk3⟩
   gi_wp2
   go_end0
   exact ⟨⟨_,rfl⟩,_,rfl,hJ3⟩
end Go.Proofs.YtojoahlpgmnbnaaGreatDoor.Q
namespace Go.Proofs.YtojoahlpgmnbnaaGreatDoor.Q
open Go.Lib hiding intOf
open U S L
theorem beg_10 {s:By} {i:Nat} (h:beg s i=true) (h0:0<i):s[i - 1]?=some 10:=by
 unfold beg at h
 simp only [Bool.and_eq_true,Bool.or_eq_true,decide_eq_true_eq] at h
 rcases h.1 with h|h
 ·omega
 ·exact h
theorem beg_decl {s:By} {i:Nat} (h:beg s i=true):declW (s.drop i)=true:=by
 unfold beg at h
 simp only [Bool.and_eq_true] at h
 exact h.2
theorem part_cut (s:By) {f e:Nat} (hfe:f<e) (h10:s[e - 1]?=some 10):∃ y,s.drop f=y++10 :: s.drop e∧(s.drop f).take (e - f)=y++[10]:=by
 have hlt:e - 1<s.length:=(List.getElem?_eq_some_iff.1 h10).1
 have h1:=List.drop_eq_getElem_cons hlt
 rw [List.getElem?_eq_getElem hlt] at h10
 rw [Option.some.inj h10,show e - 1+1=e by omega] at h1
 have hd:(s.drop f).drop (e - 1 - f)=10 :: s.drop e:=by rw [List.drop_drop,show f+(e - 1 - f)=e - 1 by omega,h1]
 have h2:s.drop f=(s.drop f).take (e - 1 - f)++10 :: s.drop e:=by rw [← hd,List.take_append_drop]
 obtain ⟨y,hy⟩:∃ y,(s.drop f).take (e - 1 - f)=y:=⟨_,rfl⟩
 have hyl:y.length=e - 1 - f:=by rw [← hy,List.length_take,List.length_drop];omega
 rw [hy] at h2
 refine ⟨y,h2,?_⟩
 rw [h2,List.take_append,List.take_of_length_le (by omega),hyl,show e - f - (e - 1 - f)=1 by omega]
 rfl
structure WholeAt (s:ByteArray) (p:PcP) (i:Nat):Prop where
 fe:p.f≤p.e
 es:p.e≤s.size
 decl:0<i→p.d=true∧p.f<p.e
 dj:p.d=true→p.j=false
 ok:okB (s.extract p.f p.e)=true
 words:(decide (0<(scanB true (s.extract p.f p.e).toList).length))=(p.d||p.j)
 sum:(scanB true (s.toList.drop p.f)).length=(scanB true (s.extract p.f p.e).toList).length+(scanB true (s.toList.drop p.e)).length
end Go.Proofs.YtojoahlpgmnbnaaGreatDoor.Q
