/- What the claim needs of the texts JShift. -/
import Derived.Test.YtmclaaonlhnbmaaGreatDoorSOp
import Derived.Test.YtmclaaonlhnbmaaGreatDoorS17
namespace Go.Proofs.YtmclaaonlhnbmaaGreatDoor.J
open Go.RowKit
open Go.Lib hiding intOf
open U S T
theorem set5_at {W:World} {g o:Nat} {t:TypeId} {cur:Array Value} (v0 v1 v2 v3 v4:Value) (h:W.heap[g]?=some (.cells cur t (0,0))) (hs:o+5≤cur.size) :
  ∃ W' cur',((((W.setCell ⟨g,o,none⟩ v0).setCell ⟨g,o+1,none⟩ v1).setCell ⟨g,o+2,none⟩ v2).setCell ⟨g,o+3,none⟩ v3).setCell ⟨g,o+4,none⟩ v4=W'∧W'.heap[g]?=some (.cells cur' t (0,0))∧cur'.size=cur.size ∧
   (∀ j u,[v0,v1,v2,v3,v4][j]?=some u→cur'[o+j]?=some u)∧(∀ j,j<o∨o+5≤j→cur'[j]?=cur[j]?)∧(∀ k,k≠g→W'.heap[k]?=W.heap[k]?)∧∀ B,B≤g→Below B W W':=by
 have b1:∀ B,B≤g→∀ (X:World) (j:Nat) (v:Value),Below B X (X.setCell ⟨g,j,none⟩ v):=fun B hB X j v=>⟨rfl,rfl,rfl,by simp,fun k hk=>Below.heap_setCell _ _ _ _ (by show k≠g;omega)⟩
 have s0:=Go.Joins.block_setCell h (i:=o) v0
 have s1:=Go.Joins.block_setCell s0 (i:=o+1) v1
 have s2:=Go.Joins.block_setCell s1 (i:=o+2) v2
 have s3:=Go.Joins.block_setCell s2 (i:=o+3) v3
 have s4:=Go.Joins.block_setCell s3 (i:=o+4) v4
 refine ⟨_,_,rfl,s4,?_,?_,?_,?_,fun B hB=>((((b1 B hB _ _ _).trans (b1 B hB _ _ _)).trans (b1 B hB _ _ _)).trans (b1 B hB _ _ _)).trans (b1 B hB _ _ _)⟩
 ·simp
 ·intro j u hj
  rcases j with _|_|_|_|_|j
  ·simp at hj;subst hj;simp [Array.getElem?_setIfInBounds];omega
  ·simp at hj;subst hj;simp [Array.getElem?_setIfInBounds];omega
  ·simp at hj;subst hj;simp [Array.getElem?_setIfInBounds];omega
  ·simp at hj;subst hj;simp [Array.getElem?_setIfInBounds];omega
  ·simp at hj;subst hj;simp [Array.getElem?_setIfInBounds];omega
  ·simp at hj
 ·intro j hj
  simp only [Array.getElem?_setIfInBounds]
  rw [if_neg (by omega),if_neg (by omega),if_neg (by omega),if_neg (by omega),if_neg (by omega)]
 ·intro k hk
  exact (Below.heap_setCell _ _ _ _ hk).trans ((Below.heap_setCell _ _ _ _ hk).trans ((Below.heap_setCell _ _ _ _ hk).trans ((Below.heap_setCell _ _ _ _ hk).trans (Below.heap_setCell _ _ _ _ hk))))
theorem idx_row {o:Oper} {a:Act} (x y g off n i c:Nat) (W:World) (ho:o.op=.indexAddr 23 (.tmp x) (.tmp y)) (h1:a.eval (.tmp x)=.slice (some ⟨g,off,none⟩) n c) (h2:a.eval (.tmp y)=.int .i64 i) (hin:i<n):(execOp a.eval o).run Tryz.prog W=.ok (.value (.pointer (some ⟨g,off+i*5,none⟩))) W:=by
 have hm:(0:Int)≤(i:Int):=by omega
 have hm2:(i:Int)<(n:Int):=by omega
 have hr:(Instr.indexAt 23 (.slice (some ⟨g,off,none⟩) n c) (.int .i64 i)).run Tryz.prog W=.ok (.pointer (some ⟨g,off+i*5,none⟩)) W:=by
  simp [go_sem]
  intro h
  omega
 unfold execOp
 rw [ho]
 simp only [h1,h2,Sem.run_bind,hr,Result.andThen_ok,Sem.run_pure]
theorem wanted_step {c:Prop} [Decidable c] {A B:Prop} (hc:c) (hA:A):if c then A else B:=by rw [if_pos hc];exact hA
def ShiftPost (q:Pt) (w:World) (e:Ending) (w':World):Prop:=∃ lv,e=.returned (arg q lv)∧KidsIn w' (fun g=>w.heap.size≤g) q lv∧Below w.heap.size w w'
structure Half (H g:Nat) (b:Int) (ks:List Pt) (xs:List Value) (cap i:Nat) (W:World):Prop where
 hg:H≤g
 row:∃ (cur:Array Value) (ys:List Value),W.heap[g]?=some (.cells cur 25 (0,0))∧cur.size=cap*5∧PartsIn W (fun k=>H≤k∧k≠g) (shiftL b (ks.take i)) ys∧∀ (j:Nat) (u:Value),(ys++xs.drop (i*5))[j]?=some u→cur[j]?=some u
def ShiftC (p:Pt):Prop:=∀ (lv:Value) (R:Nat→Prop) (w:World) (b:Int),KidsIn w R p lv→wtP p≤1099511627776 →
 Calls Tryz.prog 16 #[arg p lv,.int .i64 b] w (ShiftPost (shiftP b p) w)
set_option maxHeartbeats 8000000 in
set_option maxRecDepth 20000 in
theorem shift_any:∀ p,ShiftC p:=Pt.ind fun k t f e ks IH lv R w b hv hw=>by
 obtain ⟨a,c,rfl⟩:=kids_form hv
 obtain ⟨_,hcap,hrow⟩:=kids_row hv
 have HIH:=hid IH
 rw [wtP] at hw
 have hlb:ks.length≤1099511627776:=Nat.le_trans (wtL_length ks) (by omega)
 have HWM:=hid (fun v (h:v∈ks)=>Nat.le_trans (wtL_mem h) (show wtL ks≤1099511627776 by omega))
 obtain ⟨xs,hp,hc,hl⟩:∃ xs,PartsIn w R ks xs∧(ks.length=0∨∃ g off,a=some ⟨g,off,none⟩∧CellsAt w g off xs)∧xs.length=ks.length*5:=by
  rcases hrow with rfl|⟨g,off,xs,rfl,_,h2,h3⟩
  ·exact ⟨[],rfl,.inl rfl,rfl⟩
  ·exact ⟨xs,h3,.inr ⟨g,off,rfl,h2⟩,by have:=PartsIn.length h3;omega⟩
 have HP:=hid hp
 have HC:=hid hc
 have HONE:=hid (parts_one hp)
 obtain ⟨n,hn⟩:∃ n,ks.length=n:=⟨_,rfl⟩
 have HN:=hid hn
 rw [hn] at hlb hl
 have HL:=hid hl
 obtain ⟨f1,hf1⟩:∃ x,moved f e f b=x:=⟨_,rfl⟩
 obtain ⟨e1,he1⟩:∃ x,moved f e e b=x:=⟨_,rfl⟩
 obtain ⟨kb,hkb⟩:∃ x,bstr k=x:=⟨_,rfl⟩
 obtain ⟨tb,htb⟩:∃ x,bstr t=x:=⟨_,rfl⟩
 have HFin:Hid (∀ (W:World) (va:Option Addr) (vc:Nat),Below w.heap.size w W→(n=0∨∃ g ys,va=some ⟨g,0,none⟩∧n≤vc∧w.heap.size≤g∧CellsAt W g 0 ys∧PartsIn W (fun k=>w.heap.size≤k) (shiftL b ks) ys) →
   ShiftPost (shiftP b (.mk k t f e ks)) w (.returned (.agg #[.string kb,.string tb,.int .i64 f1,.int .i64 e1,.slice va n vc])) W):=hid (fun W va vc hb h=>by
  have hq:shiftP b (.mk k t f e ks)=.mk k t f1 e1 (shiftL b ks):=by rw [shiftP,hf1,he1]
  rw [hq]
  refine ⟨.slice va n vc,by rw [arg,five,hkb,htb],?_,hb⟩
  rcases h with h0|⟨g,ys,rfl,h1,h2,h3,h4⟩
  ·have hk0:ks=[]:=List.eq_nil_of_length_eq_zero (by rw [hn];exact h0)
   subst hk0
   refine ⟨va,vc,?_,Nat.zero_le _,.inl rfl⟩
   rw [h0];rfl
  ·refine ⟨some ⟨g,0,none⟩,vc,by rw [shiftL_length,hn],by rw [shiftL_length,hn];exact h1,.inr ⟨g,0,ys,rfl,h2,h3,h4⟩⟩)
 obtain ⟨q,hq⟩:∃ q,shiftP b (.mk k t f e ks)=q:=⟨_,rfl⟩
 rw [hq] at HFin ⊢
 simp only [arg,five]
 rw [hn,hkb,htb]
 have HF1:=hid hf1
 have HE1:=hid he1
 clear hv hrow IH hw hp hc hl hn hcap hkb htb hq hf1 he1
 have go:∀ X:World,Below w.heap.size w X→(n=0∨∃ g off,a=some ⟨g,off,none⟩∧CellsAt X g off xs):=fun X hX=>by
  rw [← HN.out]
  exact HC.out.imp id (fun ⟨g,off,h1,h2⟩=>⟨g,off,h1,fun j u hj=>(hX.cell (World.block_lt_of_cell? w _ (h2 j u hj))).trans (h2 j u hj)⟩)
 have HGo:=hid go
 clear go HC
 go_enter Tryz.func16,Tryz.ntmps16
 by_cases hz:f=0∧e=0
 ·have hzz:=hz
  obtain ⟨rfl,rfl⟩:=hzz
  go_upto_region 4 with fail
  obtain ⟨w1,hw1,hq1,hr1,hb1,hz1⟩:=two_new w (.cells #[.string kb,.string tb,.int .i64 0,.int .i64 0,.slice a n c] 25) (.cells #[.string ⟨#[]⟩,.string ⟨#[]⟩,.int .i64 0,.int .i64 0,.slice none 0 0] 25)
  rw [hw1]
  have hfe:f1=0∧e1=0:=by rw [← HF1.out,← HE1.out];simp [moved]
  obtain ⟨rfl,rfl⟩:=hfe
  have HQ:=hid hq1
  have HR:=hid hr1
  have HB:=hid hb1
  have HZ:=hid hz1
  clear hw1 hq1 hr1 hb1 hz1 hz
  have cC:=clone_own (w:=w1) (c:=c) (HGo.out _ HB.out) HL.out HONE.out hlb
  obtain ⟨⟨k0,k1,k2,k3,k4⟩,kf⟩:=cells_five HQ.out
  go_wp2_with fail
  refine cC.mono ?_
  rintro ee w2 ⟨v',rfl,hown,hb2⟩
  obtain ⟨va,vc,rfl⟩:=owns_len hown
  have hq2:=(hb2.block _ (by have:=HZ.out;omega)).trans HQ.out
  have hr2:=(hb2.block _ HZ.out).trans HR.out
  obtain ⟨⟨k0,k1,k2,k3,k4⟩,kf⟩:=cells_five hq2
  have HQ2:=hid hq2
  have HR2:=hid hr2
  have HO2:=hid hown
  have HB2:=hid (HB.out.trans (hb2.mono HB.out.size))
  have HZ2:=hid (Nat.lt_of_lt_of_le HZ.out hb2.size)
  clear cC hq2 hr2 hown hb2 HQ HR HGo
  go_upto_region 5 with fail
  have hq3:(w2.setCell ⟨w.heap.size,4,none⟩ (.slice va n vc)).heap[w.heap.size]?=some (.cells #[.string kb,.string tb,.int .i64 0,.int .i64 0,.slice va n vc] 25 (0,0)):=Go.Joins.block_setCell HQ2.out _
  have hoth:∀ k,k≠w.heap.size→(w2.setCell ⟨w.heap.size,4,none⟩ (.slice va n vc)).heap[k]?=w2.heap[k]?:=fun k hk=>Below.heap_setCell _ _ _ _ hk
  have hb3:Below w.heap.size w (w2.setCell ⟨w.heap.size,4,none⟩ (.slice va n vc)):=HB2.out.trans ⟨rfl,rfl,rfl,by simp,fun k hk=>hoth k (by omega)⟩
  have hz3:(w2.setCell ⟨w.heap.size,4,none⟩ (.slice va n vc)).heap.size=w2.heap.size:=by simp
  generalize w2.setCell ⟨w.heap.size,4,none⟩ (.slice va n vc)=w3 at hq3 hoth hb3 hz3 ⊢
  have hr3:=(hoth (w.heap.size+1) (by omega)).trans HR2.out
  have hhalf:n=0∨∃ g,va=some ⟨g,0,none⟩∧n≤vc∧g<w3.heap.size∧g≠w.heap.size+1∧Half (w.heap.size+2) g b ks xs vc 0 w3:=by
   rcases HO2.out.2 with ⟨_,h0⟩|⟨g,cap,cur,hv,h1,h2,h3,_,h4,h5⟩
   ·exact .inl h0
   ·cases hv
    have hgl:=(Array.getElem?_eq_some_iff.1 h2).1
    have hzz:=HZ.out
    refine .inr ⟨g,rfl,h3,by omega,by omega,⟨by omega,cur,[],(hoth g (by omega)).trans h2,h4,rfl,fun j u hj=>?_⟩⟩
    rw [List.nil_append,Nat.zero_mul,List.drop_zero,← h5,List.getElem?_take] at hj
    split at hj
    ·simpa using hj
    ·cases hj
  have HQ3:=hid hq3
  have HR3:=hid hr3
  have HB3:=hid hb3
  have HH3:=hid hhalf
  have HZ3:Hid (w.heap.size+1<w3.heap.size):=hid (by have:=HZ2.out;omega)
  obtain ⟨⟨k0,k1,k2,k3,k4⟩,kf⟩:=cells_five hq3
  clear hq3 hoth hb3 hz3 hr3 hhalf HQ2 HR2 HO2 HB2 HZ2 HB HZ
  go_wp2_with fail
  clear k0 k1 k2 k3 k4 kf
  go_loopw [32] (fun iv wr=>∃ i:Nat,iv=.int .i64 i∧i≤n∧Hid (Below w.heap.size w wr)∧Hid (wr.heap[w.heap.size]?=some (.cells #[.string kb,.string tb,.int .i64 0,.int .i64 0,.slice va n vc] 25 (0,0)))∧Hid (wr.heap[w.heap.size+1]?=some (.cells #[.string ⟨#[]⟩,.string ⟨#[]⟩,.int .i64 0,.int .i64 0,.slice none 0 0] 25 (0,0))) ∧
    Hid (n=0∨∃ g,va=some ⟨g,0,none⟩∧n≤vc∧g<wr.heap.size∧g≠w.heap.size+1∧Half (w.heap.size+2) g b ks xs vc i wr)) (fun iv _=>n - (Go.RowKit.intOf iv).toNat)
  case atStart=>exact ⟨0,rfl,Nat.zero_le _,HB3,HQ3,HR3,HH3⟩
  case round =>
   obtain ⟨i,rfl,hi,HB,HQ,HR,HH⟩:=hrel
   obtain ⟨⟨k0,k1,k2,k3,k4⟩,kf⟩:=cells_five HQ.out
   clear HB3 HQ3 HR3 HH3
   by_cases hlt:i<n
   ·have hll:i<ks.length:=by rw [HN.out];exact hlt
    obtain ⟨g,rfl,hnc,hgl,hg1,hH⟩:=HH.out.resolve_left (by omega)
    obtain ⟨hg,cur,ys,hcur,hcs,hys,hcy⟩:=hH
    obtain ⟨lv,hkid,hget⟩:=parts_get i hll HP.out
    obtain ⟨p,hpp⟩:∃ p,ks[i]=p:=⟨_,rfl⟩
    have hpm:p∈ks:=by rw [← hpp];exact List.getElem_mem hll
    have hts:=shiftL_take_succ b hll
    rw [hpp] at hkid hget hts
    obtain ⟨kk,tt,ff,ee,kks⟩:=p
    obtain ⟨aa,cc,rfl⟩:=kids_form hkid
    have hyl:ys.length=i*5:=by have:=PartsIn.length hys;rw [shiftL_length,List.length_take] at this;omega
    have at':∀ j u,(five (.mk kk tt ff ee kks) (.slice aa kks.length cc))[j]?=some u→wr.cell? ⟨g,i*5+j,none⟩=some u:=fun j u hj=>by
     have h1:=hget j u hj
     have h2:=hcy (i*5+j) u (by rw [List.getElem?_append_right (by omega),hyl,List.getElem?_drop,show i*5+(i*5+j - i*5)=i*5+j by omega];exact h1)
     unfold World.cell?
     rw [hcur]
     exact h2
    have j0:wr.cell? ⟨g,i*5,none⟩=some (.string (bstr kk)):=at' 0 _ rfl
    have j1:=at' 1 _ rfl
    have j2:=at' 2 _ rfl
    have j3:=at' 3 _ rfl
    have j4:=at' 4 _ rfl
    have cI:=fun X (hX:Below w.heap.size w X)=>(HIH.out _ hpm) (.slice aa kks.length cc) R X b (kids_below hkid hX) (HWM.out _ hpm)
    simp only [arg,five] at cI
    obtain ⟨y0,hy0⟩:∃ x,bstr kk=x:=⟨_,rfl⟩
    obtain ⟨y1,hy1⟩:∃ x,bstr tt=x:=⟨_,rfl⟩
    obtain ⟨z0,hz0⟩:∃ x,kks.length=x:=⟨_,rfl⟩
    rw [hy0] at j0 cI
    rw [hy1] at j1 cI
    rw [hz0] at j4 cI
    obtain ⟨sq,hsq⟩:∃ x,shiftP b (.mk kk tt ff ee kks)=x:=⟨_,rfl⟩
    rw [hsq] at cI hts
    have HCI:=hid cI
    have HHalf:=hid (Half.mk hg ⟨cur,ys,hcur,hcs,hys,hcy⟩)
    have HTS:=hid hts
    have HG:=hid (And.intro hnc (And.intro hgl hg1))
    clear hcur hcs hys hcy hkid hget hpp hpm hts at' cI hy0 hy1 hz0 hsq hg HH hnc hgl hg1 hyl
    go_upto_region 8 with fail
    obtain ⟨w4,hw4,hq4,hb4,hz4⟩:=new_block wr (.cells #[.string y0,.string y1,.int .i64 ff,.int .i64 ee,.slice aa z0 cc] 25)
    rw [hw4]
    obtain ⟨KB,hK⟩:∃ KB,wr.heap.size=KB:=⟨_,rfl⟩
    have HWK:=hid hK
    rw [hK] at hq4 hb4 hz4 ⊢
    have hww:w.heap.size+1<KB:=by have:=HR.out;have:=(Array.getElem?_eq_some_iff.1 this).1;omega
    have hq:=(hb4.block w.heap.size (by omega)).trans HQ.out
    have hr:=(hb4.block (w.heap.size+1) hww).trans HR.out
    have hww1:w.heap.size+2≤KB:=hww
    have hB4:Below w.heap.size w w4:=HB.out.trans (hb4.mono (by omega))
    have hH4:Half (w.heap.size+2) g b ks xs vc i w4:=by
     obtain ⟨a1,cur,ys,a2,a3,a4,a5⟩:=HHalf.out
     exact ⟨a1,cur,ys,(hb4.block g (by have:=HG.out.2.1;omega)).trans a2,a3,PartsIn.later (fun k hk hkl=>hb4.block k (by omega)) (fun _ h=>h) _ _ a4,a5⟩
    have HQ4:=hid hq4
    have HB4:=hid hB4
    have HH4:=hid hH4
    have HP4:=hid hq
    have HR4:=hid hr
    have HZ4:=hid hz4
    have HWW:=hid hww
    clear hw4 hq4 hb4 hz4 hK hww hq hr hB4 hH4 j0 j1 j2 j3 j4 k0 k1 k2 k3 k4 kf HB HQ HR HHalf
    refine wp_region_held_drew (S:=fun X=>Below w.heap.size w X∧X.heap[w.heap.size]?=some (.cells #[.string kb,.string tb,.int .i64 0,.int .i64 0,.slice (some ⟨g,0,none⟩) n vc] 25 (0,0))∧X.heap[KB]?=some (.cells #[.string y0,.string y1,.int .i64 ff,.int .i64 ee,.slice aa z0 cc] 25 (0,0))) (by kernel_rfl) ⟨HB4.out.drew,HP4.out,HQ4.out⟩ (fun hHeld=>?_)
    have HD1:Hid (Half (w.heap.size+2) g b ks xs vc i w4.drew):=hid (by
     obtain ⟨a1,cur,ys,a2,a3,a4,a5⟩:=HH4.out
     exact ⟨a1,cur,ys,a2,a3,parts_below a4 ((Below.refl _ _).drew),a5⟩)
    have HD2:Hid (w4.drew.heap[w.heap.size+1]?=_):=hid HR4.out
    have HD3:Hid (KB<w4.drew.heap.size):=hid HZ4.out
    obtain ⟨V,hV⟩:∃ V,w4.drew=V:=⟨_,rfl⟩
    rw [hV] at hHeld HD1 HD2 HD3 ⊢
    clear hV HH4 HR4 HZ4 HB4 HP4 HQ4
    refine wpAnyH_take (i:=0) (oi:=OP.p99) (v:=.pointer (some ⟨w.heap.size,4,none⟩)) rfl (by kernel_rfl) (by kernel_rfl) (by kernel_rfl) (fun _ _ _ h=>h) (Or.inl ⟨by rfl,fun X hX=>rfl⟩) hHeld ?_
    (try simp only [Act.put,List.setIfInBounds_toArray,List.set_cons_zero,List.set_cons_succ])
    refine wpAnyH_take (i:=1) (oi:=OP.p100) (v:=.slice (some ⟨g,0,none⟩) n vc) rfl (by kernel_rfl) (by kernel_rfl) (by kernel_rfl) (fun _ _ _ h=>h) (Or.inl ⟨by rfl,fun X hX=>by have q:=(cells_five hX.2.1).1.2.2.2.2;go_simp⟩) hHeld ?_
    (try simp only [Act.put,List.setIfInBounds_toArray,List.set_cons_zero,List.set_cons_succ])
    refine wpAnyH_take (i:=2) (oi:=OP.p101) (v:=.int .i64 i) rfl (by kernel_rfl) (by kernel_rfl) (by kernel_rfl) (fun _ _ _ h=>h) (Or.inl ⟨by rfl,fun X hX=>rfl⟩) hHeld ?_
    (try simp only [Act.put,List.setIfInBounds_toArray,List.set_cons_zero,List.set_cons_succ])
    refine wpAnyH_take (i:=3) (oi:=OP.p102) (v:=.agg #[.string y0,.string y1,.int .i64 ff,.int .i64 ee,.slice aa z0 cc]) rfl (by kernel_rfl) (by kernel_rfl) (by kernel_rfl) (fun _ _ _ h=>h) (Or.inl ⟨by rfl,fun X hX=>by obtain ⟨q0,q1,q2,q3,q4⟩:=(cells_five hX.2.2).1;go_simp⟩) hHeld ?_
    (try simp only [Act.put,List.setIfInBounds_toArray,List.set_cons_zero,List.set_cons_succ])
    refine wpAnyH_take (i:=4) (oi:=OP.p103) (v:=.int .i64 b) rfl (by kernel_rfl) (by kernel_rfl) (by kernel_rfl) (fun _ _ _ h=>h) (Or.inl ⟨by rfl,fun X hX=>rfl⟩) hHeld ?_
    (try simp only [Act.put,List.setIfInBounds_toArray,List.set_cons_zero,List.set_cons_succ])
    refine wpAnyH_ready (rs:=[5]) (by kernel_rfl) (by simp) ?_
    refine (AllReadyH.cons (o:=OP.p104) rfl (fun K hK=>?_) AllReadyH.nil)
    refine wanted_step (by kernel_rfl) ?_
    go_simp
    go_at_call 16
    refine (HCI.out V hHeld.1).mono ?_
    rintro e' w5 ⟨lv5,rfl,hk5,hb5⟩
    have hVb:w.heap.size≤V.heap.size:=hHeld.1.size
    have hS5:Below w.heap.size w w5∧w5.heap[w.heap.size]?=_∧w5.heap[KB]?=_:=⟨hHeld.1.trans (hb5.mono hVb),(hb5.block _ (by have:=HWW.out;have:=HD3.out;omega)).trans hHeld.2.1,(hb5.block _ HD3.out).trans hHeld.2.2⟩
    dsimp only
    refine hK.out _ _ (hS5) (fun hHeld5=>?_)
    (try simp only [Act.put,List.setIfInBounds_toArray,List.set_cons_zero,List.set_cons_succ])
    clear hK K
    obtain ⟨sk,st,sf,se,sks⟩:=sq
    obtain ⟨sa,sc,rfl⟩:=kids_form hk5
    simp only [arg,five]
    refine wpAnyH_take (i:=6) (oi:=OP.p105) (v:=.pointer (some ⟨g,i*5,none⟩)) rfl (by kernel_rfl) (by kernel_rfl) (by kernel_rfl) (fun _ _ _ h=>h) (Or.inl ⟨by rfl,fun X hX=>(idx_row 38 39 g 0 n i vc X rfl rfl rfl hlt).trans (by rw [Nat.zero_add])⟩) hHeld5 ?_
    (try simp only [Act.put,List.setIfInBounds_toArray,List.set_cons_zero,List.set_cons_succ])
    obtain ⟨a1,cur,ys,a2,a3,a4,a5⟩:=HD1.out
    have hVg:g<V.heap.size:=(Array.getElem?_eq_some_iff.1 a2).1
    have c2:=(hb5.block g hVg).trans a2
    have hnc:=HG.out.1
    have hsz:i*5+5≤cur.size:=by omega
    obtain ⟨W',cur',hW',d1,d2,d3,d4,d5,d6⟩:=set5_at (.string (bstr sk)) (.string (bstr st)) (.int .i64 sf) (.int .i64 se) (.slice sa sks.length sc) c2 hsz
    have cl:∀ j,j<5→∃ u,w5.cell? ⟨g,i*5+j,none⟩=some u:=fun j hj=>by
     have hj5:i*5+j<cur.size:=Nat.lt_of_lt_of_le (Nat.add_lt_add_left hj _) hsz
     unfold World.cell?;rw [c2];exact ⟨cur[i*5+j]'hj5,Array.getElem?_eq_getElem hj5⟩
    obtain ⟨u0,q0⟩:∃ u,w5.cell? ⟨g,i*5,none⟩=some u:=cl 0 (by omega)
    obtain ⟨u1,q1⟩:=cl 1 (by omega)
    obtain ⟨u2,q2⟩:=cl 2 (by omega)
    obtain ⟨u3,q3⟩:=cl 3 (by omega)
    obtain ⟨u4,q4⟩:=cl 4 (by omega)
    have qf:∀ j,w5.frozen? ⟨g,j,none⟩=false:=fun j=>by simp [World.frozen?,c2]
    have hgK:g≠KB:=by have:=HG.out.2.1;have:=HWK.out;omega
    have hgP:g≠w.heap.size:=by omega
    have hgQ:g≠w.heap.size+1:=HG.out.2.2
    have hSf:Below w.heap.size w W'∧W'.heap[w.heap.size]?=_∧W'.heap[KB]?=_:=⟨hS5.1.trans (d6 _ (by omega)),(d5 _ (fun h=>hgP h.symm)).trans hS5.2.1,(d5 _ (fun h=>hgK h.symm)).trans hS5.2.2⟩
    have hHf:Half (w.heap.size+2) g b ks xs vc (i+1) W':=by
     have hyl:ys.length=i*5:=by have h:=PartsIn.length a4;rw [shiftL_length,List.length_take] at h;have:=HN.out;omega
     refine ⟨a1,cur',ys++five (.mk sk st sf se sks) (.slice sa sks.length sc),d1,by rw [d2];exact a3,?_,fun j u hj=>?_⟩
     ·rw [HTS.out]
      refine PartsIn.snoc (PartsIn.later (fun k hk hkl=>(d5 k hk.2).trans (hb5.block k hkl)) (fun _ h=>h) _ _ a4) (KidsIn.later (fun k hk _=>d5 k (by omega)) (fun k hk=>⟨by have:=hVb;have:=HD3.out;have:=HWW.out;omega,by omega⟩) _ _ hk5)
     ·by_cases h1:j<i*5
      ·rw [d4 j (.inl h1)]
       refine a5 j u ?_
       rw [List.append_assoc,List.getElem?_append_left (by omega)] at hj
       rw [List.getElem?_append_left (by omega)];exact hj
      ·by_cases h2:j<i*5+5
       ·obtain ⟨m,rfl⟩:∃ m,j=i*5+m:=⟨j - i*5,by omega⟩
        rw [List.append_assoc,List.getElem?_append_right (by omega),hyl,show i*5+m - i*5=m by omega,List.getElem?_append_left (by rw [five_length];omega)] at hj
        exact d3 m u hj
       ·rw [d4 j (.inr (by omega))]
        refine a5 j u ?_
        rw [List.getElem?_append_right (by rw [List.length_append,five_length];omega),List.length_append,five_length,List.getElem?_drop] at hj
        rw [List.getElem?_append_right (by omega),List.getElem?_drop,← hj]
        congr 1
        omega
    have hr5:=(d5 (w.heap.size+1) (fun h=>hgQ h.symm)).trans ((hb5.block _ (by have:=HD3.out;have:=HWW.out;omega)).trans HD2.out)
    have hgs:g<W'.heap.size:=(Array.getElem?_eq_some_iff.1 d1).1
    have HSf:=hid hSf
    have HHf:=hid hHf
    have HR5:=hid hr5
    have HGS:=hid hgs
    clear a1 a2 a3 a4 a5 c2 hsz cl d1 d2 d3 d4 d5 d6 hHf hr5 hgs hk5 hb5 hS5 hVg hgK hgP hgQ
    refine wpAnyH_ready (rs:=[7]) (by kernel_rfl) (by simp) ?_
    refine (AllReadyH.cons (o:=OP.p106) rfl (fun K hK=>?_) AllReadyH.nil)
    refine wanted_step (by kernel_rfl) ?_
    go_simp
    refine hK.out _ _ (HSf.out) (fun hHeld6=>?_)
    (try simp only [Act.put,List.setIfInBounds_toArray,List.set_cons_zero,List.set_cons_succ])
    clear hK K
    clear q0 q1 q2 q3 q4 qf hW' hSf hHeld6 hHeld5 hHeld
    refine wpAnyH_done (by kernel_rfl) ?_ _
    go_wp2_with fail
    go_roundw
    case rel=>exact ⟨i+1,by go_num,by omega,hid HSf.out.1,hid HSf.out.2.1,HR5,hid (.inr ⟨g,rfl,HG.out.1,HGS.out,HG.out.2.2,HHf.out⟩)⟩
    case measure=>simp [Go.RowKit.intOf];omega
   ·obtain rfl:i=n:=by omega
    have hk:i=0∨∃ g ys,va=some ⟨g,0,none⟩∧i≤vc∧w.heap.size+2≤g∧CellsAt wr g 0 ys∧PartsIn wr (fun k=>w.heap.size+2≤k) (shiftL b ks) ys:=by
     refine HH.out.imp id ?_
     rintro ⟨g,h1,h2,h3,h4,h5⟩
     obtain ⟨a1,cur,ys,a2,a3,a4,a5⟩:=h5
     rw [List.take_of_length_le (by rw [HN.out];exact Nat.le_refl _)] at a4
     have hdrop:xs.drop (i*5)=[]:=List.drop_eq_nil_of_le (by rw [HL.out];exact Nat.le_refl _)
     rw [hdrop,List.append_nil] at a5
     refine ⟨g,ys,h1,h2,a1,fun j u hj=>?_,PartsIn.later (fun _ _ _=>rfl) (fun _ h=>h.1) _ _ a4⟩
     rw [Nat.zero_add];unfold World.cell?;rw [a2];exact a5 j u hj
    have HK:=hid hk
    obtain ⟨⟨l0,l1,l2,l3,l4⟩,lf⟩:=cells_five HR.out
    clear hk
    go_wp2_with fail
    obtain ⟨Wf,hWf,f0,oth,hbf⟩:=set_five (.string kb) (.string tb) (.int .i64 0) (.int .i64 0) (.slice va i vc) HR.out
    rw [hWf]
    obtain ⟨⟨y0,y1,y2,y3,y4⟩,_⟩:=cells_five f0
    have hfin:=HFin.out Wf va vc (HB.out.trans (hbf _ (by omega))) (HK.out.imp id (fun ⟨g,ys,h1,h2,h3,h4,h5⟩=>⟨g,ys,h1,h2,by omega,fun j u hj=>by
     have h6:=h4 j u hj
     unfold World.cell? at h6 ⊢
     rw [oth g (by omega)];exact h6,PartsIn.later (fun k hk _=>oth k (by omega)) (fun k hk=>by omega) _ _ h5⟩))
    clear hWf f0 oth hbf l0 l1 l2 l3 l4 lf k0 k1 k2 k3 k4 kf
    simp [bodyPost,results,Tryz.results16,go_sem,y0,y1,y2,y3,y4]
    exact hfin
 by_cases hf0:f=0
 ·have he0:¬ e=0:=fun h=>hz ⟨hf0,h⟩
  subst hf0
  have q1:((e:Int) != 0)=true:=by simpa using he0
  have q2:((e:Int)==0)=false:=by simpa using he0
  have hfe:wrap64 b=f1∧wrap64 (e+b)=e1:=by rw [← HF1.out,← HE1.out];unfold moved;rw [if_neg hz,if_neg hz,Int.zero_add];exact ⟨rfl,rfl⟩
  go_upto_region 4 with fail
  rw [hfe.1,hfe.2]
  obtain ⟨w1,hw1,hq1,hr1,hb1,hz1⟩:=two_new w (.cells #[.string kb,.string tb,.int .i64 f1,.int .i64 e1,.slice a n c] 25) (.cells #[.string ⟨#[]⟩,.string ⟨#[]⟩,.int .i64 0,.int .i64 0,.slice none 0 0] 25)
  rw [hw1]
  have HQ:=hid hq1
  have HR:=hid hr1
  have HB:=hid hb1
  have HZ:=hid hz1
  clear hw1 hq1 hr1 hb1 hz1 hz hfe he0 q1 q2
  have cC:=clone_own (w:=w1) (c:=c) (HGo.out _ HB.out) HL.out HONE.out hlb
  obtain ⟨⟨k0,k1,k2,k3,k4⟩,kf⟩:=cells_five HQ.out
  go_wp2_with fail
  refine cC.mono ?_
  rintro ee w2 ⟨v',rfl,hown,hb2⟩
  obtain ⟨va,vc,rfl⟩:=owns_len hown
  have hq2:=(hb2.block _ (by have:=HZ.out;omega)).trans HQ.out
  have hr2:=(hb2.block _ HZ.out).trans HR.out
  obtain ⟨⟨k0,k1,k2,k3,k4⟩,kf⟩:=cells_five hq2
  have HQ2:=hid hq2
  have HR2:=hid hr2
  have HO2:=hid hown
  have HB2:=hid (HB.out.trans (hb2.mono HB.out.size))
  have HZ2:=hid (Nat.lt_of_lt_of_le HZ.out hb2.size)
  clear cC hq2 hr2 hown hb2 HQ HR HGo
  go_upto_region 5 with fail
  have hq3:(w2.setCell ⟨w.heap.size,4,none⟩ (.slice va n vc)).heap[w.heap.size]?=some (.cells #[.string kb,.string tb,.int .i64 f1,.int .i64 e1,.slice va n vc] 25 (0,0)):=Go.Joins.block_setCell HQ2.out _
  have hoth:∀ k,k≠w.heap.size→(w2.setCell ⟨w.heap.size,4,none⟩ (.slice va n vc)).heap[k]?=w2.heap[k]?:=fun k hk=>Below.heap_setCell _ _ _ _ hk
  have hb3:Below w.heap.size w (w2.setCell ⟨w.heap.size,4,none⟩ (.slice va n vc)):=HB2.out.trans ⟨rfl,rfl,rfl,by simp,fun k hk=>hoth k (by omega)⟩
  have hz3:(w2.setCell ⟨w.heap.size,4,none⟩ (.slice va n vc)).heap.size=w2.heap.size:=by simp
  generalize w2.setCell ⟨w.heap.size,4,none⟩ (.slice va n vc)=w3 at hq3 hoth hb3 hz3 ⊢
  have hr3:=(hoth (w.heap.size+1) (by omega)).trans HR2.out
  have hhalf:n=0∨∃ g,va=some ⟨g,0,none⟩∧n≤vc∧g<w3.heap.size∧g≠w.heap.size+1∧Half (w.heap.size+2) g b ks xs vc 0 w3:=by
   rcases HO2.out.2 with ⟨_,h0⟩|⟨g,cap,cur,hv,h1,h2,h3,_,h4,h5⟩
   ·exact .inl h0
   ·cases hv
    have hgl:=(Array.getElem?_eq_some_iff.1 h2).1
    have hzz:=HZ.out
    refine .inr ⟨g,rfl,h3,by omega,by omega,⟨by omega,cur,[],(hoth g (by omega)).trans h2,h4,rfl,fun j u hj=>?_⟩⟩
    rw [List.nil_append,Nat.zero_mul,List.drop_zero,← h5,List.getElem?_take] at hj
    split at hj
    ·simpa using hj
    ·cases hj
  have HQ3:=hid hq3
  have HR3:=hid hr3
  have HB3:=hid hb3
  have HH3:=hid hhalf
  have HZ3:Hid (w.heap.size+1<w3.heap.size):=hid (by have:=HZ2.out;omega)
  obtain ⟨⟨k0,k1,k2,k3,k4⟩,kf⟩:=cells_five hq3
  clear hq3 hoth hb3 hz3 hr3 hhalf HQ2 HR2 HO2 HB2 HZ2 HB HZ
  go_wp2_with fail
  clear k0 k1 k2 k3 k4 kf
  go_loopw [32] (fun iv wr=>∃ i:Nat,iv=.int .i64 i∧i≤n∧Hid (Below w.heap.size w wr)∧Hid (wr.heap[w.heap.size]?=some (.cells #[.string kb,.string tb,.int .i64 f1,.int .i64 e1,.slice va n vc] 25 (0,0)))∧Hid (wr.heap[w.heap.size+1]?=some (.cells #[.string ⟨#[]⟩,.string ⟨#[]⟩,.int .i64 0,.int .i64 0,.slice none 0 0] 25 (0,0))) ∧
    Hid (n=0∨∃ g,va=some ⟨g,0,none⟩∧n≤vc∧g<wr.heap.size∧g≠w.heap.size+1∧Half (w.heap.size+2) g b ks xs vc i wr)) (fun iv _=>n - (Go.RowKit.intOf iv).toNat)
  case atStart=>exact ⟨0,rfl,Nat.zero_le _,HB3,HQ3,HR3,HH3⟩
  case round =>
   obtain ⟨i,rfl,hi,HB,HQ,HR,HH⟩:=hrel
   obtain ⟨⟨k0,k1,k2,k3,k4⟩,kf⟩:=cells_five HQ.out
   clear HB3 HQ3 HR3 HH3
   by_cases hlt:i<n
   ·have hll:i<ks.length:=by rw [HN.out];exact hlt
    obtain ⟨g,rfl,hnc,hgl,hg1,hH⟩:=HH.out.resolve_left (by omega)
    obtain ⟨hg,cur,ys,hcur,hcs,hys,hcy⟩:=hH
    obtain ⟨lv,hkid,hget⟩:=parts_get i hll HP.out
    obtain ⟨p,hpp⟩:∃ p,ks[i]=p:=⟨_,rfl⟩
    have hpm:p∈ks:=by rw [← hpp];exact List.getElem_mem hll
    have hts:=shiftL_take_succ b hll
    rw [hpp] at hkid hget hts
    obtain ⟨kk,tt,ff,ee,kks⟩:=p
    obtain ⟨aa,cc,rfl⟩:=kids_form hkid
    have hyl:ys.length=i*5:=by have:=PartsIn.length hys;rw [shiftL_length,List.length_take] at this;omega
    have at':∀ j u,(five (.mk kk tt ff ee kks) (.slice aa kks.length cc))[j]?=some u→wr.cell? ⟨g,i*5+j,none⟩=some u:=fun j u hj=>by
     have h1:=hget j u hj
     have h2:=hcy (i*5+j) u (by rw [List.getElem?_append_right (by omega),hyl,List.getElem?_drop,show i*5+(i*5+j - i*5)=i*5+j by omega];exact h1)
     unfold World.cell?
     rw [hcur]
     exact h2
    have j0:wr.cell? ⟨g,i*5,none⟩=some (.string (bstr kk)):=at' 0 _ rfl
    have j1:=at' 1 _ rfl
    have j2:=at' 2 _ rfl
    have j3:=at' 3 _ rfl
    have j4:=at' 4 _ rfl
    have cI:=fun X (hX:Below w.heap.size w X)=>(HIH.out _ hpm) (.slice aa kks.length cc) R X b (kids_below hkid hX) (HWM.out _ hpm)
    simp only [arg,five] at cI
    obtain ⟨y0,hy0⟩:∃ x,bstr kk=x:=⟨_,rfl⟩
    obtain ⟨y1,hy1⟩:∃ x,bstr tt=x:=⟨_,rfl⟩
    obtain ⟨z0,hz0⟩:∃ x,kks.length=x:=⟨_,rfl⟩
    rw [hy0] at j0 cI
    rw [hy1] at j1 cI
    rw [hz0] at j4 cI
    obtain ⟨sq,hsq⟩:∃ x,shiftP b (.mk kk tt ff ee kks)=x:=⟨_,rfl⟩
    rw [hsq] at cI hts
    have HCI:=hid cI
    have HHalf:=hid (Half.mk hg ⟨cur,ys,hcur,hcs,hys,hcy⟩)
    have HTS:=hid hts
    have HG:=hid (And.intro hnc (And.intro hgl hg1))
    clear hcur hcs hys hcy hkid hget hpp hpm hts at' cI hy0 hy1 hz0 hsq hg HH hnc hgl hg1 hyl
    go_upto_region 8 with fail
    obtain ⟨w4,hw4,hq4,hb4,hz4⟩:=new_block wr (.cells #[.string y0,.string y1,.int .i64 ff,.int .i64 ee,.slice aa z0 cc] 25)
    rw [hw4]
    obtain ⟨KB,hK⟩:∃ KB,wr.heap.size=KB:=⟨_,rfl⟩
    have HWK:=hid hK
    rw [hK] at hq4 hb4 hz4 ⊢
    have hww:w.heap.size+1<KB:=by have:=HR.out;have:=(Array.getElem?_eq_some_iff.1 this).1;omega
    have hq:=(hb4.block w.heap.size (by omega)).trans HQ.out
    have hr:=(hb4.block (w.heap.size+1) hww).trans HR.out
    have hww1:w.heap.size+2≤KB:=hww
    have hB4:Below w.heap.size w w4:=HB.out.trans (hb4.mono (by omega))
    have hH4:Half (w.heap.size+2) g b ks xs vc i w4:=by
     obtain ⟨a1,cur,ys,a2,a3,a4,a5⟩:=HHalf.out
     exact ⟨a1,cur,ys,(hb4.block g (by have:=HG.out.2.1;omega)).trans a2,a3,PartsIn.later (fun k hk hkl=>hb4.block k (by omega)) (fun _ h=>h) _ _ a4,a5⟩
    have HQ4:=hid hq4
    have HB4:=hid hB4
    have HH4:=hid hH4
    have HP4:=hid hq
    have HR4:=hid hr
    have HZ4:=hid hz4
    have HWW:=hid hww
    clear hw4 hq4 hb4 hz4 hK hww hq hr hB4 hH4 j0 j1 j2 j3 j4 k0 k1 k2 k3 k4 kf HB HQ HR HHalf
    refine wp_region_held_drew (S:=fun X=>Below w.heap.size w X∧X.heap[w.heap.size]?=some (.cells #[.string kb,.string tb,.int .i64 f1,.int .i64 e1,.slice (some ⟨g,0,none⟩) n vc] 25 (0,0))∧X.heap[KB]?=some (.cells #[.string y0,.string y1,.int .i64 ff,.int .i64 ee,.slice aa z0 cc] 25 (0,0))) (by kernel_rfl) ⟨HB4.out.drew,HP4.out,HQ4.out⟩ (fun hHeld=>?_)
    have HD1:Hid (Half (w.heap.size+2) g b ks xs vc i w4.drew):=hid (by
     obtain ⟨a1,cur,ys,a2,a3,a4,a5⟩:=HH4.out
     exact ⟨a1,cur,ys,a2,a3,parts_below a4 ((Below.refl _ _).drew),a5⟩)
    have HD2:Hid (w4.drew.heap[w.heap.size+1]?=_):=hid HR4.out
    have HD3:Hid (KB<w4.drew.heap.size):=hid HZ4.out
    obtain ⟨V,hV⟩:∃ V,w4.drew=V:=⟨_,rfl⟩
    rw [hV] at hHeld HD1 HD2 HD3 ⊢
    clear hV HH4 HR4 HZ4 HB4 HP4 HQ4
    refine wpAnyH_take (i:=0) (oi:=OP.p99) (v:=.pointer (some ⟨w.heap.size,4,none⟩)) rfl (by kernel_rfl) (by kernel_rfl) (by kernel_rfl) (fun _ _ _ h=>h) (Or.inl ⟨by rfl,fun X hX=>rfl⟩) hHeld ?_
    (try simp only [Act.put,List.setIfInBounds_toArray,List.set_cons_zero,List.set_cons_succ])
    refine wpAnyH_take (i:=1) (oi:=OP.p100) (v:=.slice (some ⟨g,0,none⟩) n vc) rfl (by kernel_rfl) (by kernel_rfl) (by kernel_rfl) (fun _ _ _ h=>h) (Or.inl ⟨by rfl,fun X hX=>by have q:=(cells_five hX.2.1).1.2.2.2.2;go_simp⟩) hHeld ?_
    (try simp only [Act.put,List.setIfInBounds_toArray,List.set_cons_zero,List.set_cons_succ])
    refine wpAnyH_take (i:=2) (oi:=OP.p101) (v:=.int .i64 i) rfl (by kernel_rfl) (by kernel_rfl) (by kernel_rfl) (fun _ _ _ h=>h) (Or.inl ⟨by rfl,fun X hX=>rfl⟩) hHeld ?_
    (try simp only [Act.put,List.setIfInBounds_toArray,List.set_cons_zero,List.set_cons_succ])
    refine wpAnyH_take (i:=3) (oi:=OP.p102) (v:=.agg #[.string y0,.string y1,.int .i64 ff,.int .i64 ee,.slice aa z0 cc]) rfl (by kernel_rfl) (by kernel_rfl) (by kernel_rfl) (fun _ _ _ h=>h) (Or.inl ⟨by rfl,fun X hX=>by obtain ⟨q0,q1,q2,q3,q4⟩:=(cells_five hX.2.2).1;go_simp⟩) hHeld ?_
    (try simp only [Act.put,List.setIfInBounds_toArray,List.set_cons_zero,List.set_cons_succ])
    refine wpAnyH_take (i:=4) (oi:=OP.p103) (v:=.int .i64 b) rfl (by kernel_rfl) (by kernel_rfl) (by kernel_rfl) (fun _ _ _ h=>h) (Or.inl ⟨by rfl,fun X hX=>rfl⟩) hHeld ?_
    (try simp only [Act.put,List.setIfInBounds_toArray,List.set_cons_zero,List.set_cons_succ])
    refine wpAnyH_ready (rs:=[5]) (by kernel_rfl) (by simp) ?_
    refine (AllReadyH.cons (o:=OP.p104) rfl (fun K hK=>?_) AllReadyH.nil)
    refine wanted_step (by kernel_rfl) ?_
    go_simp
    go_at_call 16
    refine (HCI.out V hHeld.1).mono ?_
    rintro e' w5 ⟨lv5,rfl,hk5,hb5⟩
    have hVb:w.heap.size≤V.heap.size:=hHeld.1.size
    have hS5:Below w.heap.size w w5∧w5.heap[w.heap.size]?=_∧w5.heap[KB]?=_:=⟨hHeld.1.trans (hb5.mono hVb),(hb5.block _ (by have:=HWW.out;have:=HD3.out;omega)).trans hHeld.2.1,(hb5.block _ HD3.out).trans hHeld.2.2⟩
    dsimp only
    refine hK.out _ _ (hS5) (fun hHeld5=>?_)
    (try simp only [Act.put,List.setIfInBounds_toArray,List.set_cons_zero,List.set_cons_succ])
    clear hK K
    obtain ⟨sk,st,sf,se,sks⟩:=sq
    obtain ⟨sa,sc,rfl⟩:=kids_form hk5
    simp only [arg,five]
    refine wpAnyH_take (i:=6) (oi:=OP.p105) (v:=.pointer (some ⟨g,i*5,none⟩)) rfl (by kernel_rfl) (by kernel_rfl) (by kernel_rfl) (fun _ _ _ h=>h) (Or.inl ⟨by rfl,fun X hX=>(idx_row 38 39 g 0 n i vc X rfl rfl rfl hlt).trans (by rw [Nat.zero_add])⟩) hHeld5 ?_
    (try simp only [Act.put,List.setIfInBounds_toArray,List.set_cons_zero,List.set_cons_succ])
    obtain ⟨a1,cur,ys,a2,a3,a4,a5⟩:=HD1.out
    have hVg:g<V.heap.size:=(Array.getElem?_eq_some_iff.1 a2).1
    have c2:=(hb5.block g hVg).trans a2
    have hnc:=HG.out.1
    have hsz:i*5+5≤cur.size:=by omega
    obtain ⟨W',cur',hW',d1,d2,d3,d4,d5,d6⟩:=set5_at (.string (bstr sk)) (.string (bstr st)) (.int .i64 sf) (.int .i64 se) (.slice sa sks.length sc) c2 hsz
    have cl:∀ j,j<5→∃ u,w5.cell? ⟨g,i*5+j,none⟩=some u:=fun j hj=>by
     have hj5:i*5+j<cur.size:=Nat.lt_of_lt_of_le (Nat.add_lt_add_left hj _) hsz
     unfold World.cell?;rw [c2];exact ⟨cur[i*5+j]'hj5,Array.getElem?_eq_getElem hj5⟩
    obtain ⟨u0,q0⟩:∃ u,w5.cell? ⟨g,i*5,none⟩=some u:=cl 0 (by omega)
    obtain ⟨u1,q1⟩:=cl 1 (by omega)
    obtain ⟨u2,q2⟩:=cl 2 (by omega)
    obtain ⟨u3,q3⟩:=cl 3 (by omega)
    obtain ⟨u4,q4⟩:=cl 4 (by omega)
    have qf:∀ j,w5.frozen? ⟨g,j,none⟩=false:=fun j=>by simp [World.frozen?,c2]
    have hgK:g≠KB:=by have:=HG.out.2.1;have:=HWK.out;omega
    have hgP:g≠w.heap.size:=by omega
    have hgQ:g≠w.heap.size+1:=HG.out.2.2
    have hSf:Below w.heap.size w W'∧W'.heap[w.heap.size]?=_∧W'.heap[KB]?=_:=⟨hS5.1.trans (d6 _ (by omega)),(d5 _ (fun h=>hgP h.symm)).trans hS5.2.1,(d5 _ (fun h=>hgK h.symm)).trans hS5.2.2⟩
    have hHf:Half (w.heap.size+2) g b ks xs vc (i+1) W':=by
     have hyl:ys.length=i*5:=by have h:=PartsIn.length a4;rw [shiftL_length,List.length_take] at h;have:=HN.out;omega
     refine ⟨a1,cur',ys++five (.mk sk st sf se sks) (.slice sa sks.length sc),d1,by rw [d2];exact a3,?_,fun j u hj=>?_⟩
     ·rw [HTS.out]
      refine PartsIn.snoc (PartsIn.later (fun k hk hkl=>(d5 k hk.2).trans (hb5.block k hkl)) (fun _ h=>h) _ _ a4) (KidsIn.later (fun k hk _=>d5 k (by omega)) (fun k hk=>⟨by have:=hVb;have:=HD3.out;have:=HWW.out;omega,by omega⟩) _ _ hk5)
     ·by_cases h1:j<i*5
      ·rw [d4 j (.inl h1)]
       refine a5 j u ?_
       rw [List.append_assoc,List.getElem?_append_left (by omega)] at hj
       rw [List.getElem?_append_left (by omega)];exact hj
      ·by_cases h2:j<i*5+5
       ·obtain ⟨m,rfl⟩:∃ m,j=i*5+m:=⟨j - i*5,by omega⟩
        rw [List.append_assoc,List.getElem?_append_right (by omega),hyl,show i*5+m - i*5=m by omega,List.getElem?_append_left (by rw [five_length];omega)] at hj
        exact d3 m u hj
       ·rw [d4 j (.inr (by omega))]
        refine a5 j u ?_
        rw [List.getElem?_append_right (by rw [List.length_append,five_length];omega),List.length_append,five_length,List.getElem?_drop] at hj
        rw [List.getElem?_append_right (by omega),List.getElem?_drop,← hj]
        congr 1
        omega
    have hr5:=(d5 (w.heap.size+1) (fun h=>hgQ h.symm)).trans ((hb5.block _ (by have:=HD3.out;have:=HWW.out;omega)).trans HD2.out)
    have hgs:g<W'.heap.size:=(Array.getElem?_eq_some_iff.1 d1).1
    have HSf:=hid hSf
    have HHf:=hid hHf
    have HR5:=hid hr5
    have HGS:=hid hgs
    clear a1 a2 a3 a4 a5 c2 hsz cl d1 d2 d3 d4 d5 d6 hHf hr5 hgs hk5 hb5 hS5 hVg hgK hgP hgQ
    refine wpAnyH_ready (rs:=[7]) (by kernel_rfl) (by simp) ?_
    refine (AllReadyH.cons (o:=OP.p106) rfl (fun K hK=>?_) AllReadyH.nil)
    refine wanted_step (by kernel_rfl) ?_
    go_simp
    refine hK.out _ _ (HSf.out) (fun hHeld6=>?_)
    (try simp only [Act.put,List.setIfInBounds_toArray,List.set_cons_zero,List.set_cons_succ])
    clear hK K
    clear q0 q1 q2 q3 q4 qf hW' hSf hHeld6 hHeld5 hHeld
    refine wpAnyH_done (by kernel_rfl) ?_ _
    go_wp2_with fail
    go_roundw
    case rel=>exact ⟨i+1,by go_num,by omega,hid HSf.out.1,hid HSf.out.2.1,HR5,hid (.inr ⟨g,rfl,HG.out.1,HGS.out,HG.out.2.2,HHf.out⟩)⟩
    case measure=>simp [Go.RowKit.intOf];omega
   ·obtain rfl:i=n:=by omega
    have hk:i=0∨∃ g ys,va=some ⟨g,0,none⟩∧i≤vc∧w.heap.size+2≤g∧CellsAt wr g 0 ys∧PartsIn wr (fun k=>w.heap.size+2≤k) (shiftL b ks) ys:=by
     refine HH.out.imp id ?_
     rintro ⟨g,h1,h2,h3,h4,h5⟩
     obtain ⟨a1,cur,ys,a2,a3,a4,a5⟩:=h5
     rw [List.take_of_length_le (by rw [HN.out];exact Nat.le_refl _)] at a4
     have hdrop:xs.drop (i*5)=[]:=List.drop_eq_nil_of_le (by rw [HL.out];exact Nat.le_refl _)
     rw [hdrop,List.append_nil] at a5
     refine ⟨g,ys,h1,h2,a1,fun j u hj=>?_,PartsIn.later (fun _ _ _=>rfl) (fun _ h=>h.1) _ _ a4⟩
     rw [Nat.zero_add];unfold World.cell?;rw [a2];exact a5 j u hj
    have HK:=hid hk
    obtain ⟨⟨l0,l1,l2,l3,l4⟩,lf⟩:=cells_five HR.out
    clear hk
    go_wp2_with fail
    obtain ⟨Wf,hWf,f0,oth,hbf⟩:=set_five (.string kb) (.string tb) (.int .i64 f1) (.int .i64 e1) (.slice va i vc) HR.out
    rw [hWf]
    obtain ⟨⟨y0,y1,y2,y3,y4⟩,_⟩:=cells_five f0
    have hfin:=HFin.out Wf va vc (HB.out.trans (hbf _ (by omega))) (HK.out.imp id (fun ⟨g,ys,h1,h2,h3,h4,h5⟩=>⟨g,ys,h1,h2,by omega,fun j u hj=>by
     have h6:=h4 j u hj
     unfold World.cell? at h6 ⊢
     rw [oth g (by omega)];exact h6,PartsIn.later (fun k hk _=>oth k (by omega)) (fun k hk=>by omega) _ _ h5⟩))
    clear hWf f0 oth hbf l0 l1 l2 l3 l4 lf k0 k1 k2 k3 k4 kf
    simp [bodyPost,results,Tryz.results16,go_sem,y0,y1,y2,y3,y4]
    exact hfin
 ·have q1:((f:Int) != 0)=true:=by simpa using hf0
  have q2:((f:Int)==0)=false:=by simpa using hf0
  have hfe:wrap64 (f+b)=f1∧wrap64 (e+b)=e1:=by rw [← HF1.out,← HE1.out];unfold moved;rw [if_neg hz,if_neg hz];exact ⟨rfl,rfl⟩
  go_upto_region 4 with fail
  rw [hfe.1,hfe.2]
  obtain ⟨w1,hw1,hq1,hr1,hb1,hz1⟩:=two_new w (.cells #[.string kb,.string tb,.int .i64 f1,.int .i64 e1,.slice a n c] 25) (.cells #[.string ⟨#[]⟩,.string ⟨#[]⟩,.int .i64 0,.int .i64 0,.slice none 0 0] 25)
  rw [hw1]
  have HQ:=hid hq1
  have HR:=hid hr1
  have HB:=hid hb1
  have HZ:=hid hz1
  clear hw1 hq1 hr1 hb1 hz1 hz hfe hf0 q1 q2
  have cC:=clone_own (w:=w1) (c:=c) (HGo.out _ HB.out) HL.out HONE.out hlb
  obtain ⟨⟨k0,k1,k2,k3,k4⟩,kf⟩:=cells_five HQ.out
  go_wp2_with fail
  refine cC.mono ?_
  rintro ee w2 ⟨v',rfl,hown,hb2⟩
  obtain ⟨va,vc,rfl⟩:=owns_len hown
  have hq2:=(hb2.block _ (by have:=HZ.out;omega)).trans HQ.out
  have hr2:=(hb2.block _ HZ.out).trans HR.out
  obtain ⟨⟨k0,k1,k2,k3,k4⟩,kf⟩:=cells_five hq2
  have HQ2:=hid hq2
  have HR2:=hid hr2
  have HO2:=hid hown
  have HB2:=hid (HB.out.trans (hb2.mono HB.out.size))
  have HZ2:=hid (Nat.lt_of_lt_of_le HZ.out hb2.size)
  clear cC hq2 hr2 hown hb2 HQ HR HGo
  go_upto_region 5 with fail
  have hq3:(w2.setCell ⟨w.heap.size,4,none⟩ (.slice va n vc)).heap[w.heap.size]?=some (.cells #[.string kb,.string tb,.int .i64 f1,.int .i64 e1,.slice va n vc] 25 (0,0)):=Go.Joins.block_setCell HQ2.out _
  have hoth:∀ k,k≠w.heap.size→(w2.setCell ⟨w.heap.size,4,none⟩ (.slice va n vc)).heap[k]?=w2.heap[k]?:=fun k hk=>Below.heap_setCell _ _ _ _ hk
  have hb3:Below w.heap.size w (w2.setCell ⟨w.heap.size,4,none⟩ (.slice va n vc)):=HB2.out.trans ⟨rfl,rfl,rfl,by simp,fun k hk=>hoth k (by omega)⟩
  have hz3:(w2.setCell ⟨w.heap.size,4,none⟩ (.slice va n vc)).heap.size=w2.heap.size:=by simp
  generalize w2.setCell ⟨w.heap.size,4,none⟩ (.slice va n vc)=w3 at hq3 hoth hb3 hz3 ⊢
  have hr3:=(hoth (w.heap.size+1) (by omega)).trans HR2.out
  have hhalf:n=0∨∃ g,va=some ⟨g,0,none⟩∧n≤vc∧g<w3.heap.size∧g≠w.heap.size+1∧Half (w.heap.size+2) g b ks xs vc 0 w3:=by
   rcases HO2.out.2 with ⟨_,h0⟩|⟨g,cap,cur,hv,h1,h2,h3,_,h4,h5⟩
   ·exact .inl h0
   ·cases hv
    have hgl:=(Array.getElem?_eq_some_iff.1 h2).1
    have hzz:=HZ.out
    refine .inr ⟨g,rfl,h3,by omega,by omega,⟨by omega,cur,[],(hoth g (by omega)).trans h2,h4,rfl,fun j u hj=>?_⟩⟩
    rw [List.nil_append,Nat.zero_mul,List.drop_zero,← h5,List.getElem?_take] at hj
    split at hj
    ·simpa using hj
    ·cases hj
  have HQ3:=hid hq3
  have HR3:=hid hr3
  have HB3:=hid hb3
  have HH3:=hid hhalf
  have HZ3:Hid (w.heap.size+1<w3.heap.size):=hid (by have:=HZ2.out;omega)
  obtain ⟨⟨k0,k1,k2,k3,k4⟩,kf⟩:=cells_five hq3
  clear hq3 hoth hb3 hz3 hr3 hhalf HQ2 HR2 HO2 HB2 HZ2 HB HZ
  go_wp2_with fail
  clear k0 k1 k2 k3 k4 kf
  go_loopw [32] (fun iv wr=>∃ i:Nat,iv=.int .i64 i∧i≤n∧Hid (Below w.heap.size w wr)∧Hid (wr.heap[w.heap.size]?=some (.cells #[.string kb,.string tb,.int .i64 f1,.int .i64 e1,.slice va n vc] 25 (0,0)))∧Hid (wr.heap[w.heap.size+1]?=some (.cells #[.string ⟨#[]⟩,.string ⟨#[]⟩,.int .i64 0,.int .i64 0,.slice none 0 0] 25 (0,0))) ∧
    Hid (n=0∨∃ g,va=some ⟨g,0,none⟩∧n≤vc∧g<wr.heap.size∧g≠w.heap.size+1∧Half (w.heap.size+2) g b ks xs vc i wr)) (fun iv _=>n - (Go.RowKit.intOf iv).toNat)
  case atStart=>exact ⟨0,rfl,Nat.zero_le _,HB3,HQ3,HR3,HH3⟩
  case round =>
   obtain ⟨i,rfl,hi,HB,HQ,HR,HH⟩:=hrel
   obtain ⟨⟨k0,k1,k2,k3,k4⟩,kf⟩:=cells_five HQ.out
   clear HB3 HQ3 HR3 HH3
   by_cases hlt:i<n
   ·have hll:i<ks.length:=by rw [HN.out];exact hlt
    obtain ⟨g,rfl,hnc,hgl,hg1,hH⟩:=HH.out.resolve_left (by omega)
    obtain ⟨hg,cur,ys,hcur,hcs,hys,hcy⟩:=hH
    obtain ⟨lv,hkid,hget⟩:=parts_get i hll HP.out
    obtain ⟨p,hpp⟩:∃ p,ks[i]=p:=⟨_,rfl⟩
    have hpm:p∈ks:=by rw [← hpp];exact List.getElem_mem hll
    have hts:=shiftL_take_succ b hll
    rw [hpp] at hkid hget hts
    obtain ⟨kk,tt,ff,ee,kks⟩:=p
    obtain ⟨aa,cc,rfl⟩:=kids_form hkid
    have hyl:ys.length=i*5:=by have:=PartsIn.length hys;rw [shiftL_length,List.length_take] at this;omega
    have at':∀ j u,(five (.mk kk tt ff ee kks) (.slice aa kks.length cc))[j]?=some u→wr.cell? ⟨g,i*5+j,none⟩=some u:=fun j u hj=>by
     have h1:=hget j u hj
     have h2:=hcy (i*5+j) u (by rw [List.getElem?_append_right (by omega),hyl,List.getElem?_drop,show i*5+(i*5+j - i*5)=i*5+j by omega];exact h1)
     unfold World.cell?
     rw [hcur]
     exact h2
    have j0:wr.cell? ⟨g,i*5,none⟩=some (.string (bstr kk)):=at' 0 _ rfl
    have j1:=at' 1 _ rfl
    have j2:=at' 2 _ rfl
    have j3:=at' 3 _ rfl
    have j4:=at' 4 _ rfl
    have cI:=fun X (hX:Below w.heap.size w X)=>(HIH.out _ hpm) (.slice aa kks.length cc) R X b (kids_below hkid hX) (HWM.out _ hpm)
    simp only [arg,five] at cI
    obtain ⟨y0,hy0⟩:∃ x,bstr kk=x:=⟨_,rfl⟩
    obtain ⟨y1,hy1⟩:∃ x,bstr tt=x:=⟨_,rfl⟩
    obtain ⟨z0,hz0⟩:∃ x,kks.length=x:=⟨_,rfl⟩
    rw [hy0] at j0 cI
    rw [hy1] at j1 cI
    rw [hz0] at j4 cI
    obtain ⟨sq,hsq⟩:∃ x,shiftP b (.mk kk tt ff ee kks)=x:=⟨_,rfl⟩
    rw [hsq] at cI hts
    have HCI:=hid cI
    have HHalf:=hid (Half.mk hg ⟨cur,ys,hcur,hcs,hys,hcy⟩)
    have HTS:=hid hts
    have HG:=hid (And.intro hnc (And.intro hgl hg1))
    clear hcur hcs hys hcy hkid hget hpp hpm hts at' cI hy0 hy1 hz0 hsq hg HH hnc hgl hg1 hyl
    go_upto_region 8 with fail
    obtain ⟨w4,hw4,hq4,hb4,hz4⟩:=new_block wr (.cells #[.string y0,.string y1,.int .i64 ff,.int .i64 ee,.slice aa z0 cc] 25)
    rw [hw4]
    obtain ⟨KB,hK⟩:∃ KB,wr.heap.size=KB:=⟨_,rfl⟩
    have HWK:=hid hK
    rw [hK] at hq4 hb4 hz4 ⊢
    have hww:w.heap.size+1<KB:=by have:=HR.out;have:=(Array.getElem?_eq_some_iff.1 this).1;omega
    have hq:=(hb4.block w.heap.size (by omega)).trans HQ.out
    have hr:=(hb4.block (w.heap.size+1) hww).trans HR.out
    have hww1:w.heap.size+2≤KB:=hww
    have hB4:Below w.heap.size w w4:=HB.out.trans (hb4.mono (by omega))
    have hH4:Half (w.heap.size+2) g b ks xs vc i w4:=by
     obtain ⟨a1,cur,ys,a2,a3,a4,a5⟩:=HHalf.out
     exact ⟨a1,cur,ys,(hb4.block g (by have:=HG.out.2.1;omega)).trans a2,a3,PartsIn.later (fun k hk hkl=>hb4.block k (by omega)) (fun _ h=>h) _ _ a4,a5⟩
    have HQ4:=hid hq4
    have HB4:=hid hB4
    have HH4:=hid hH4
    have HP4:=hid hq
    have HR4:=hid hr
    have HZ4:=hid hz4
    have HWW:=hid hww
    clear hw4 hq4 hb4 hz4 hK hww hq hr hB4 hH4 j0 j1 j2 j3 j4 k0 k1 k2 k3 k4 kf HB HQ HR HHalf
    refine wp_region_held_drew (S:=fun X=>Below w.heap.size w X∧X.heap[w.heap.size]?=some (.cells #[.string kb,.string tb,.int .i64 f1,.int .i64 e1,.slice (some ⟨g,0,none⟩) n vc] 25 (0,0))∧X.heap[KB]?=some (.cells #[.string y0,.string y1,.int .i64 ff,.int .i64 ee,.slice aa z0 cc] 25 (0,0))) (by kernel_rfl) ⟨HB4.out.drew,HP4.out,HQ4.out⟩ (fun hHeld=>?_)
    have HD1:Hid (Half (w.heap.size+2) g b ks xs vc i w4.drew):=hid (by
     obtain ⟨a1,cur,ys,a2,a3,a4,a5⟩:=HH4.out
     exact ⟨a1,cur,ys,a2,a3,parts_below a4 ((Below.refl _ _).drew),a5⟩)
    have HD2:Hid (w4.drew.heap[w.heap.size+1]?=_):=hid HR4.out
    have HD3:Hid (KB<w4.drew.heap.size):=hid HZ4.out
    obtain ⟨V,hV⟩:∃ V,w4.drew=V:=⟨_,rfl⟩
    rw [hV] at hHeld HD1 HD2 HD3 ⊢
    clear hV HH4 HR4 HZ4 HB4 HP4 HQ4
    refine wpAnyH_take (i:=0) (oi:=OP.p99) (v:=.pointer (some ⟨w.heap.size,4,none⟩)) rfl (by kernel_rfl) (by kernel_rfl) (by kernel_rfl) (fun _ _ _ h=>h) (Or.inl ⟨by rfl,fun X hX=>rfl⟩) hHeld ?_
    (try simp only [Act.put,List.setIfInBounds_toArray,List.set_cons_zero,List.set_cons_succ])
    refine wpAnyH_take (i:=1) (oi:=OP.p100) (v:=.slice (some ⟨g,0,none⟩) n vc) rfl (by kernel_rfl) (by kernel_rfl) (by kernel_rfl) (fun _ _ _ h=>h) (Or.inl ⟨by rfl,fun X hX=>by have q:=(cells_five hX.2.1).1.2.2.2.2;go_simp⟩) hHeld ?_
    (try simp only [Act.put,List.setIfInBounds_toArray,List.set_cons_zero,List.set_cons_succ])
    refine wpAnyH_take (i:=2) (oi:=OP.p101) (v:=.int .i64 i) rfl (by kernel_rfl) (by kernel_rfl) (by kernel_rfl) (fun _ _ _ h=>h) (Or.inl ⟨by rfl,fun X hX=>rfl⟩) hHeld ?_
    (try simp only [Act.put,List.setIfInBounds_toArray,List.set_cons_zero,List.set_cons_succ])
    refine wpAnyH_take (i:=3) (oi:=OP.p102) (v:=.agg #[.string y0,.string y1,.int .i64 ff,.int .i64 ee,.slice aa z0 cc]) rfl (by kernel_rfl) (by kernel_rfl) (by kernel_rfl) (fun _ _ _ h=>h) (Or.inl ⟨by rfl,fun X hX=>by obtain ⟨q0,q1,q2,q3,q4⟩:=(cells_five hX.2.2).1;go_simp⟩) hHeld ?_
    (try simp only [Act.put,List.setIfInBounds_toArray,List.set_cons_zero,List.set_cons_succ])
    refine wpAnyH_take (i:=4) (oi:=OP.p103) (v:=.int .i64 b) rfl (by kernel_rfl) (by kernel_rfl) (by kernel_rfl) (fun _ _ _ h=>h) (Or.inl ⟨by rfl,fun X hX=>rfl⟩) hHeld ?_
    (try simp only [Act.put,List.setIfInBounds_toArray,List.set_cons_zero,List.set_cons_succ])
    refine wpAnyH_ready (rs:=[5]) (by kernel_rfl) (by simp) ?_
    refine (AllReadyH.cons (o:=OP.p104) rfl (fun K hK=>?_) AllReadyH.nil)
    refine wanted_step (by kernel_rfl) ?_
    go_simp
    go_at_call 16
    refine (HCI.out V hHeld.1).mono ?_
    rintro e' w5 ⟨lv5,rfl,hk5,hb5⟩
    have hVb:w.heap.size≤V.heap.size:=hHeld.1.size
    have hS5:Below w.heap.size w w5∧w5.heap[w.heap.size]?=_∧w5.heap[KB]?=_:=⟨hHeld.1.trans (hb5.mono hVb),(hb5.block _ (by have:=HWW.out;have:=HD3.out;omega)).trans hHeld.2.1,(hb5.block _ HD3.out).trans hHeld.2.2⟩
    dsimp only
    refine hK.out _ _ (hS5) (fun hHeld5=>?_)
    (try simp only [Act.put,List.setIfInBounds_toArray,List.set_cons_zero,List.set_cons_succ])
    clear hK K
    obtain ⟨sk,st,sf,se,sks⟩:=sq
    obtain ⟨sa,sc,rfl⟩:=kids_form hk5
    simp only [arg,five]
    refine wpAnyH_take (i:=6) (oi:=OP.p105) (v:=.pointer (some ⟨g,i*5,none⟩)) rfl (by kernel_rfl) (by kernel_rfl) (by kernel_rfl) (fun _ _ _ h=>h) (Or.inl ⟨by rfl,fun X hX=>(idx_row 38 39 g 0 n i vc X rfl rfl rfl hlt).trans (by rw [Nat.zero_add])⟩) hHeld5 ?_
    (try simp only [Act.put,List.setIfInBounds_toArray,List.set_cons_zero,List.set_cons_succ])
    obtain ⟨a1,cur,ys,a2,a3,a4,a5⟩:=HD1.out
    have hVg:g<V.heap.size:=(Array.getElem?_eq_some_iff.1 a2).1
    have c2:=(hb5.block g hVg).trans a2
    have hnc:=HG.out.1
    have hsz:i*5+5≤cur.size:=by omega
    obtain ⟨W',cur',hW',d1,d2,d3,d4,d5,d6⟩:=set5_at (.string (bstr sk)) (.string (bstr st)) (.int .i64 sf) (.int .i64 se) (.slice sa sks.length sc) c2 hsz
    have cl:∀ j,j<5→∃ u,w5.cell? ⟨g,i*5+j,none⟩=some u:=fun j hj=>by
     have hj5:i*5+j<cur.size:=Nat.lt_of_lt_of_le (Nat.add_lt_add_left hj _) hsz
     unfold World.cell?;rw [c2];exact ⟨cur[i*5+j]'hj5,Array.getElem?_eq_getElem hj5⟩
    obtain ⟨u0,q0⟩:∃ u,w5.cell? ⟨g,i*5,none⟩=some u:=cl 0 (by omega)
    obtain ⟨u1,q1⟩:=cl 1 (by omega)
    obtain ⟨u2,q2⟩:=cl 2 (by omega)
    obtain ⟨u3,q3⟩:=cl 3 (by omega)
    obtain ⟨u4,q4⟩:=cl 4 (by omega)
    have qf:∀ j,w5.frozen? ⟨g,j,none⟩=false:=fun j=>by simp [World.frozen?,c2]
    have hgK:g≠KB:=by have:=HG.out.2.1;have:=HWK.out;omega
    have hgP:g≠w.heap.size:=by omega
    have hgQ:g≠w.heap.size+1:=HG.out.2.2
    have hSf:Below w.heap.size w W'∧W'.heap[w.heap.size]?=_∧W'.heap[KB]?=_:=⟨hS5.1.trans (d6 _ (by omega)),(d5 _ (fun h=>hgP h.symm)).trans hS5.2.1,(d5 _ (fun h=>hgK h.symm)).trans hS5.2.2⟩
    have hHf:Half (w.heap.size+2) g b ks xs vc (i+1) W':=by
     have hyl:ys.length=i*5:=by have h:=PartsIn.length a4;rw [shiftL_length,List.length_take] at h;have:=HN.out;omega
     refine ⟨a1,cur',ys++five (.mk sk st sf se sks) (.slice sa sks.length sc),d1,by rw [d2];exact a3,?_,fun j u hj=>?_⟩
     ·rw [HTS.out]
      refine PartsIn.snoc (PartsIn.later (fun k hk hkl=>(d5 k hk.2).trans (hb5.block k hkl)) (fun _ h=>h) _ _ a4) (KidsIn.later (fun k hk _=>d5 k (by omega)) (fun k hk=>⟨by have:=hVb;have:=HD3.out;have:=HWW.out;omega,by omega⟩) _ _ hk5)
     ·by_cases h1:j<i*5
      ·rw [d4 j (.inl h1)]
       refine a5 j u ?_
       rw [List.append_assoc,List.getElem?_append_left (by omega)] at hj
       rw [List.getElem?_append_left (by omega)];exact hj
      ·by_cases h2:j<i*5+5
       ·obtain ⟨m,rfl⟩:∃ m,j=i*5+m:=⟨j - i*5,by omega⟩
        rw [List.append_assoc,List.getElem?_append_right (by omega),hyl,show i*5+m - i*5=m by omega,List.getElem?_append_left (by rw [five_length];omega)] at hj
        exact d3 m u hj
       ·rw [d4 j (.inr (by omega))]
        refine a5 j u ?_
        rw [List.getElem?_append_right (by rw [List.length_append,five_length];omega),List.length_append,five_length,List.getElem?_drop] at hj
        rw [List.getElem?_append_right (by omega),List.getElem?_drop,← hj]
        congr 1
        omega
    have hr5:=(d5 (w.heap.size+1) (fun h=>hgQ h.symm)).trans ((hb5.block _ (by have:=HD3.out;have:=HWW.out;omega)).trans HD2.out)
    have hgs:g<W'.heap.size:=(Array.getElem?_eq_some_iff.1 d1).1
    have HSf:=hid hSf
    have HHf:=hid hHf
    have HR5:=hid hr5
    have HGS:=hid hgs
    clear a1 a2 a3 a4 a5 c2 hsz cl d1 d2 d3 d4 d5 d6 hHf hr5 hgs hk5 hb5 hS5 hVg hgK hgP hgQ
    refine wpAnyH_ready (rs:=[7]) (by kernel_rfl) (by simp) ?_
    refine (AllReadyH.cons (o:=OP.p106) rfl (fun K hK=>?_) AllReadyH.nil)
    refine wanted_step (by kernel_rfl) ?_
    go_simp
    refine hK.out _ _ (HSf.out) (fun hHeld6=>?_)
    (try simp only [Act.put,List.setIfInBounds_toArray,List.set_cons_zero,List.set_cons_succ])
    clear hK K
    clear q0 q1 q2 q3 q4 qf hW' hSf hHeld6 hHeld5 hHeld
    refine wpAnyH_done (by kernel_rfl) ?_ _
    go_wp2_with fail
    go_roundw
    case rel=>exact ⟨i+1,by go_num,by omega,hid HSf.out.1,hid HSf.out.2.1,HR5,hid (.inr ⟨g,rfl,HG.out.1,HGS.out,HG.out.2.2,HHf.out⟩)⟩
    case measure=>simp [Go.RowKit.intOf];omega
   ·obtain rfl:i=n:=by omega
    have hk:i=0∨∃ g ys,va=some ⟨g,0,none⟩∧i≤vc∧w.heap.size+2≤g∧CellsAt wr g 0 ys∧PartsIn wr (fun k=>w.heap.size+2≤k) (shiftL b ks) ys:=by
     refine HH.out.imp id ?_
     rintro ⟨g,h1,h2,h3,h4,h5⟩
     obtain ⟨a1,cur,ys,a2,a3,a4,a5⟩:=h5
     rw [List.take_of_length_le (by rw [HN.out];exact Nat.le_refl _)] at a4
     have hdrop:xs.drop (i*5)=[]:=List.drop_eq_nil_of_le (by rw [HL.out];exact Nat.le_refl _)
     rw [hdrop,List.append_nil] at a5
     refine ⟨g,ys,h1,h2,a1,fun j u hj=>?_,PartsIn.later (fun _ _ _=>rfl) (fun _ h=>h.1) _ _ a4⟩
     rw [Nat.zero_add];unfold World.cell?;rw [a2];exact a5 j u hj
    have HK:=hid hk
    obtain ⟨⟨l0,l1,l2,l3,l4⟩,lf⟩:=cells_five HR.out
    clear hk
    go_wp2_with fail
    obtain ⟨Wf,hWf,f0,oth,hbf⟩:=set_five (.string kb) (.string tb) (.int .i64 f1) (.int .i64 e1) (.slice va i vc) HR.out
    rw [hWf]
    obtain ⟨⟨y0,y1,y2,y3,y4⟩,_⟩:=cells_five f0
    have hfin:=HFin.out Wf va vc (HB.out.trans (hbf _ (by omega))) (HK.out.imp id (fun ⟨g,ys,h1,h2,h3,h4,h5⟩=>⟨g,ys,h1,h2,by omega,fun j u hj=>by
     have h6:=h4 j u hj
     unfold World.cell? at h6 ⊢
     rw [oth g (by omega)];exact h6,PartsIn.later (fun k hk _=>oth k (by omega)) (fun k hk=>by omega) _ _ h5⟩))
    clear hWf f0 oth hbf l0 l1 l2 l3 l4 lf k0 k1 k2 k3 k4 kf
    simp [bodyPost,results,Tryz.results16,go_sem,y0,y1,y2,y3,y4]
    exact hfin
end Go.Proofs.YtmclaaonlhnbmaaGreatDoor.J
