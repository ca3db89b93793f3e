/- What the claim needs of the texts UCount, UKeep, JShiftR, UUnit. -/
import Derived.Test.YtojoahlpgmnbnaaGreatDoorUFOp
import Derived.Test.YtojoahlpgmnbnaaGreatDoorUF12
import Derived.Test.YtojoahlpgmnbnaaGreatDoorUF13
import Derived.Deep.AppendLies
namespace Go.Proofs.YtojoahlpgmnbnaaGreatDoor.Ud
open Go.RowKit
open Go.Lib hiding intOf
open U S Q T J
def TxAt (W:World) (v:Value) (l:List ByteArray):Prop:=∃ a c,v=.slice a l.length c∧(l=[]∨∃ g off,a=some ⟨g,off,none⟩∧∀ i (hi:i<l.length),W.cell? ⟨g,off+i*10+2,none⟩=some (.string l[i]))
theorem TxAt.later {W W':World} {v:Value} {l:List ByteArray} (h:TxAt W v l) (hb:Below W.heap.size W W'):TxAt W' v l:=by
 obtain ⟨a,c,h1,h2⟩:=h
 refine ⟨a,c,h1,h2.imp id ?_⟩
 rintro ⟨g,off,e1,e2⟩
 exact ⟨g,off,e1,fun i hi=>(hb.cell (World.block_lt_of_cell? W _ (e2 i hi))).trans (e2 i hi)⟩
theorem dcs_tx {B:Nat} {R:Nat→Prop} {W:World} {l:List DcP} {v:Value} (h:DcsIn B R W l v):TxAt W v (txs l):=by
 obtain ⟨a,c,h1,h2,h3⟩:=h
 refine ⟨a,c,by rw [txs_len];exact h1,?_⟩
 rcases h3 with h3|⟨g,off,e1,_,_,e4⟩
 ·exact .inl (by rw [h3];rfl)
 ·refine .inr ⟨g,off,e1,fun i hi=>?_⟩
  have hi2:i<l.length:=by rw [← txs_len];exact hi
  obtain ⟨f,e,tx,k,t,pf,pe,ks,aa,cc,x,r,hK⟩:=dc_at (e4 i hi2)
  have e5:(txs l)[i]=l[i].tx:=List.getElem_map _
  rw [hK.c2,e5,hK.eq]
theorem wrap_mid {x:Int} (h0:-1000000000000≤x) (h1:x≤1000000000000):wrap64 x=x:=by
 unfold wrap64
 omega
theorem cell_one {w:World} {q:Nat} {x:Value} {t:TypeId} (h:w.heap[q]?=some (.cells #[x] t (0,0))):w.cell? ⟨q,0,none⟩=some x∧w.frozen? ⟨q,0,none⟩=false:=by
 unfold World.cell? World.frozen?;rw [h];exact ⟨rfl,rfl⟩
theorem drewB {q:Nat} {w W:World} (h:Below q w W):Below q w W.drew:=⟨h.os,h.tape,h.output,h.size,h.block⟩
theorem idx_rowU {o:Oper} {a:Act} (x y g off n i c:Nat) (W:World) (ho:o.op=.indexAddr 56 (.tmp x) (.tmp y)) (h1:a.eval (.tmp x)=.slice (some ⟨g,off,none⟩) n c) (h2:a.eval (.tmp y)=.int .i64 i) (hin:i<n):(execOp a.eval o).run Tryz.prog W=.ok (.value (.pointer (some ⟨g,off+i*10,none⟩))) W:=by
 have hm:(0:Int)≤(i:Int):=by omega
 have hm2:(i:Int)<(n:Int):=by omega
 have hr:(Instr.indexAt 56 (.slice (some ⟨g,off,none⟩) n c) (.int .i64 i)).run Tryz.prog W=.ok (.pointer (some ⟨g,off+i*10,none⟩)) W:=by
  simp [go_sem]
  intro h
  omega
 unfold execOp
 rw [ho]
 simp only [h1,h2,Sem.run_bind,hr,Result.andThen_ok,Sem.run_pure]
set_option maxHeartbeats 8000000 in
set_option maxRecDepth 20000 in
theorem count_any (q A B:Nat) (w:World) (TL TO:List ByteArray) (v v':Value) (left:Nat) (a0 b0 st:Int) (gg:Nat→Bool)
  (hq:w.heap[q]?=some (.cells #[.int .i64 left] 3 (0,0))) (hA:w.cell? ⟨A,0,none⟩=some v) (hB:w.cell? ⟨B,0,none⟩=some v') (hAq:A<q) (hBq:B<q)
  (hv:TxAt w v TL) (hv':TxAt w v' TO) (hlow:∀ g off n c,TL≠[]→v=.slice (some ⟨g,off,none⟩) n c→g<q) (hlow':∀ g off n c,TO≠[]→v'=.slice (some ⟨g,off,none⟩) n c→g<q)
  (hidx:∀ j:Nat,j<left→∃ x y:Nat,∃ (hx:x<TL.length) (hy:y<TO.length),a0+st*j=x∧b0+st*j=y∧gg j=decide (TL[x]=TO[y]))
  (hst:st=1∨st=-1) (ha:-1000000000≤a0∧a0≤1000000000) (hb:-1000000000≤b0∧b0≤1000000000) (hl:left≤1000000000) :
  Calls Tryz.prog 51 #[.int .i64 a0,.int .i64 b0,.int .i64 st,.pointer (some ⟨q,0,none⟩),.pointer (some ⟨A,0,none⟩),.pointer (some ⟨B,0,none⟩)] w fun e w'=>e=.returned (.int .i64 (cnt gg left 0:Nat))∧w'.heap[q]?=some (.cells #[.int .i64 ((left - cnt gg left 0:Nat):Int)] 3 (0,0))∧Below q w w':=by
 obtain ⟨a,c,rfl,hrow⟩:=hv
 obtain ⟨a',c',rfl,hrow'⟩:=hv'
 have HR:=hid hrow
 have HR':=hid hrow'
 have HI:=hid hidx
 have HS:=hid hst
 have HAB:=hid (And.intro ha hb)
 have HQ:=hid hq
 have HL:=hid hlow
 have HL':=hid hlow'
 have hCN:=cnt_cnt gg left 0 (fun _ h=>absurd h (Nat.not_lt_zero _))
 rw [Nat.add_zero] at hCN
 obtain ⟨R,hR⟩:∃ R,cnt gg left 0=R:=⟨_,rfl⟩
 rw [hR] at hCN ⊢
 have HC:=hid hCN
 obtain ⟨n,hn⟩:∃ n,TL.length=n:=⟨_,rfl⟩
 obtain ⟨n',hn'⟩:∃ n,TO.length=n:=⟨_,rfl⟩
 have HN:=hid hn
 have HN':=hid hn'
 have HCA:=hid (And.intro hA hB)
 rw [hn] at hA
 rw [hn'] at hB
 have HXA:=hid (And.intro hA hB)
 clear hrow hrow' hidx hst ha hb hq hCN hR hn hn' hA hB hlow hlow'
 go_enter Tryz.func51,Tryz.ntmps51
 go_wp2_with fail
 go_loopw [0,1,10] (fun xv yv jv wr=>∃ (x y:Int) (j m:Nat),xv=.int .i64 x∧yv=.int .i64 y∧jv=.int .i64 j∧j+m=left∧Hid (x=a0+st*j)∧Hid (y=b0+st*j)∧Hid (∀ i,i<j→gg i=true)∧Hid (wr.heap[q]?=some (.cells #[.int .i64 m] 3 (0,0)))∧Hid (Below q w wr)) (fun _ _ jv _=>left - (Go.RowKit.intOf jv).toNat)
 case atStart=>exact ⟨a0,b0,0,left,rfl,rfl,rfl,by omega,hid (by simp),hid (by simp),hid (fun i h=>absurd h (Nat.not_lt_zero _)),HQ,hid (Below.refl _ _)⟩
 case round =>
  obtain ⟨x,y,j,m,rfl,rfl,rfl,hjm,HX,HY,HG,HM,HB⟩:=hrel
  have hcA:wr.cell? ⟨A,0,none⟩=some (.slice a n c):=(HB.out.cell (p:=⟨A,0,none⟩) hAq).trans HXA.out.1
  have hcB:wr.cell? ⟨B,0,none⟩=some (.slice a' n' c'):=(HB.out.cell (p:=⟨B,0,none⟩) hBq).trans HXA.out.2
  have hcq:=(cell_one HM.out).1
  go_upto_region 2 with fail
  by_cases hm:0<m
  ·obtain ⟨x0,y0,hx0,hy0,ex,ey,eg⟩:=HI.out j (by omega)
   obtain ⟨g,off,rfl,hc⟩:=HR.out.resolve_left (fun h=>by rw [h] at hx0;exact Nat.not_lt_zero _ hx0)
   obtain ⟨g',off',rfl,hc'⟩:=HR'.out.resolve_left (fun h=>by rw [h] at hy0;exact Nat.not_lt_zero _ hy0)
   have t1:=(HB.out.cell (p:=⟨g,off+x0*10+2,none⟩) (HL.out _ _ _ _ (fun h=>by rw [h] at hx0;exact Nat.not_lt_zero _ hx0) rfl)).trans (hc x0 hx0)
   have t2:=(HB.out.cell (p:=⟨g',off'+y0*10+2,none⟩) (HL'.out _ _ _ _ (fun h=>by rw [h] at hy0;exact Nat.not_lt_zero _ hy0) rfl)).trans (hc' y0 hy0)
   obtain rfl:x=(x0:Int):=HX.out.trans ex
   obtain rfl:y=(y0:Int):=HY.out.trans ey
   obtain ⟨tx,htx⟩:∃ t,TL[x0]=t:=⟨_,rfl⟩
   obtain ⟨ty,hty⟩:∃ t,TO[y0]=t:=⟨_,rfl⟩
   rw [htx] at t1 eg
   rw [hty] at t2 eg
   rw [HN.out] at hx0
   rw [HN'.out] at hy0
   obtain ⟨bb,hbb⟩:∃ b,decide (tx=ty)=b:=⟨_,rfl⟩
   rw [hbb] at eg
   have heqs:(tx.toList==ty.toList)=bb:=by
    rw [← hbb,Bool.eq_iff_iff,beq_iff_eq,decide_eq_true_iff]
    exact ⟨fun h=>ByteArray.ext (Array.ext' (by rw [← ByteArray.toList_eq,← ByteArray.toList_eq];exact h)),fun h=>by rw [h]⟩
   have HEG:=hid eg
   have HJ:=hid (And.intro hx0 hy0)
   clear hc hc' ex ey htx hty hbb eg
   refine wp_region_held_drew (S:=fun X=>X.cell? ⟨q,0,none⟩=some (.int .i64 m)∧X.cell? ⟨A,0,none⟩=some (.slice (some ⟨g,off,none⟩) n c)∧X.cell? ⟨B,0,none⟩=some (.slice (some ⟨g',off',none⟩) n' c')∧X.cell? ⟨g,off+x0*10+2,none⟩=some (.string tx)∧X.cell? ⟨g',off'+y0*10+2,none⟩=some (.string ty)) (by kernel_rfl) ⟨hcq,hcA,hcB,t1,t2⟩ (fun hHeld=>?_)
   obtain ⟨V,hV⟩:∃ V,wr.drew=V:=⟨_,rfl⟩
   have HMV:Hid (V.heap[q]?=some (.cells #[.int .i64 m] 3 (0,0))):=hid (by rw [← hV];exact HM.out)
   have HBV:Hid (Below q w V):=hid (by rw [← hV];exact drewB HB.out)
   rw [hV] at hHeld ⊢
   clear hV hcq hcA hcB t1 t2 HM HB
   refine wpAnyH_take (i:=0) (oi:=OP.p61) (v:=.int .i64 m) rfl (by kernel_rfl) (by kernel_rfl) (by kernel_rfl) (fun _ _ _ h=>h) (Or.inl ⟨by rfl,fun X hX=>by obtain ⟨c0,c1,c2,c3,c4⟩:=hX;go_simp⟩) hHeld ?_
   (try simp only [Act.put,List.setIfInBounds_toArray,List.set_cons_zero,List.set_cons_succ])
   refine wpAnyH_take (i:=1) (oi:=OP.p62) (v:=.bool true) rfl (by kernel_rfl) (by kernel_rfl) (by kernel_rfl) (fun _ _ _ h=>h) (Or.inl ⟨by rfl,fun X hX=>by go_simp⟩) hHeld ?_
   (try simp only [Act.put,List.setIfInBounds_toArray,List.set_cons_zero,List.set_cons_succ])
   refine wpAnyH_take (i:=2) (oi:=OP.p63) (v:=.bool true) rfl (by kernel_rfl) (by kernel_rfl) (by kernel_rfl) (fun _ _ _ h=>h) (Or.inl ⟨by rfl,fun X hX=>rfl⟩) hHeld ?_
   (try simp only [Act.put,List.setIfInBounds_toArray,List.set_cons_zero,List.set_cons_succ])
   refine wpAnyH_take (i:=3) (oi:=OP.p64) (v:=.slice (some ⟨g,off,none⟩) n c) rfl (by kernel_rfl) (by kernel_rfl) (by kernel_rfl) (fun _ _ _ h=>h) (Or.inl ⟨by rfl,fun X hX=>by obtain ⟨c0,c1,c2,c3,c4⟩:=hX;go_simp⟩) hHeld ?_
   (try simp only [Act.put,List.setIfInBounds_toArray,List.set_cons_zero,List.set_cons_succ])
   refine wpAnyH_take (i:=4) (oi:=OP.p65) (v:=.int .i64 x0) rfl (by kernel_rfl) (by kernel_rfl) (by kernel_rfl) (fun _ _ _ h=>h) (Or.inl ⟨by rfl,fun X hX=>rfl⟩) hHeld ?_
   (try simp only [Act.put,List.setIfInBounds_toArray,List.set_cons_zero,List.set_cons_succ])
   refine wpAnyH_take (i:=5) (oi:=OP.p66) (v:=.pointer (some ⟨g,off+x0*10,none⟩)) rfl (by kernel_rfl) (by kernel_rfl) (by kernel_rfl) (fun _ _ _ h=>h) (Or.inl ⟨by rfl,fun X hX=>idx_rowU 14 15 g off n x0 c X rfl rfl rfl HJ.out.1⟩) hHeld ?_
   (try simp only [Act.put,List.setIfInBounds_toArray,List.set_cons_zero,List.set_cons_succ])
   refine wpAnyH_take (i:=6) (oi:=OP.p67) (v:=.pointer (some ⟨g,off+x0*10+2,none⟩)) rfl (by kernel_rfl) (by kernel_rfl) (by kernel_rfl) (fun _ _ _ h=>h) (Or.inl ⟨by rfl,fun X hX=>rfl⟩) hHeld ?_
   (try simp only [Act.put,List.setIfInBounds_toArray,List.set_cons_zero,List.set_cons_succ])
   refine wpAnyH_take (i:=7) (oi:=OP.p68) (v:=.string tx) rfl (by kernel_rfl) (by kernel_rfl) (by kernel_rfl) (fun _ _ _ h=>h) (Or.inl ⟨by rfl,fun X hX=>by obtain ⟨c0,c1,c2,c3,c4⟩:=hX;go_simp⟩) hHeld ?_
   (try simp only [Act.put,List.setIfInBounds_toArray,List.set_cons_zero,List.set_cons_succ])
   refine wpAnyH_take (i:=8) (oi:=OP.p69) (v:=.slice (some ⟨g',off',none⟩) n' c') rfl (by kernel_rfl) (by kernel_rfl) (by kernel_rfl) (fun _ _ _ h=>h) (Or.inl ⟨by rfl,fun X hX=>by obtain ⟨c0,c1,c2,c3,c4⟩:=hX;go_simp⟩) hHeld ?_
   (try simp only [Act.put,List.setIfInBounds_toArray,List.set_cons_zero,List.set_cons_succ])
   refine wpAnyH_take (i:=9) (oi:=OP.p70) (v:=.int .i64 y0) rfl (by kernel_rfl) (by kernel_rfl) (by kernel_rfl) (fun _ _ _ h=>h) (Or.inl ⟨by rfl,fun X hX=>rfl⟩) hHeld ?_
   (try simp only [Act.put,List.setIfInBounds_toArray,List.set_cons_zero,List.set_cons_succ])
   refine wpAnyH_take (i:=10) (oi:=OP.p71) (v:=.pointer (some ⟨g',off'+y0*10,none⟩)) rfl (by kernel_rfl) (by kernel_rfl) (by kernel_rfl) (fun _ _ _ h=>h) (Or.inl ⟨by rfl,fun X hX=>idx_rowU 19 20 g' off' n' y0 c' X rfl rfl rfl HJ.out.2⟩) hHeld ?_
   (try simp only [Act.put,List.setIfInBounds_toArray,List.set_cons_zero,List.set_cons_succ])
   refine wpAnyH_take (i:=11) (oi:=OP.p72) (v:=.pointer (some ⟨g',off'+y0*10+2,none⟩)) rfl (by kernel_rfl) (by kernel_rfl) (by kernel_rfl) (fun _ _ _ h=>h) (Or.inl ⟨by rfl,fun X hX=>rfl⟩) hHeld ?_
   (try simp only [Act.put,List.setIfInBounds_toArray,List.set_cons_zero,List.set_cons_succ])
   refine wpAnyH_take (i:=12) (oi:=OP.p73) (v:=.string ty) rfl (by kernel_rfl) (by kernel_rfl) (by kernel_rfl) (fun _ _ _ h=>h) (Or.inl ⟨by rfl,fun X hX=>by obtain ⟨c0,c1,c2,c3,c4⟩:=hX;go_simp⟩) hHeld ?_
   (try simp only [Act.put,List.setIfInBounds_toArray,List.set_cons_zero,List.set_cons_succ])
   refine wpAnyH_take (i:=13) (oi:=OP.p74) (v:=.bool bb) rfl (by kernel_rfl) (by kernel_rfl) (by kernel_rfl) (fun _ _ _ h=>h) (Or.inl ⟨by rfl,fun X hX=>by go_simp⟩) hHeld ?_
   (try simp only [Act.put,List.setIfInBounds_toArray,List.set_cons_zero,List.set_cons_succ])
   refine wpAnyH_take (i:=14) (oi:=OP.p75) (v:=.bool bb) rfl (by kernel_rfl) (by kernel_rfl) (by kernel_rfl) (fun _ _ _ h=>h) (Or.inl ⟨by rfl,fun X hX=>rfl⟩) hHeld ?_
   (try simp only [Act.put,List.setIfInBounds_toArray,List.set_cons_zero,List.set_cons_succ])
   refine wpAnyH_done (by kernel_rfl) ?_ _
   clear hHeld
   cases bb with
   | false =>
    have hRj:R=j:=HC.out.one ⟨by omega,HG.out,.inr HEG.out⟩
    clear heqs
    go_wp2_with fail
    go_ret
    refine ⟨by rw [hRj];rfl,?_,HBV.out⟩
    rw [hRj,show left - j=m by omega]
    exact HMV.out
   | true =>
    have HG2:Hid (∀ i,i<j+1→gg i=true):=hid (fun i h=>by
     by_cases h1:i<j
     ·exact HG.out i h1
     ·rw [show i=j by omega];exact HEG.out)
    obtain ⟨cq,fq⟩:=cell_one HMV.out
    obtain ⟨m',rfl⟩:∃ k,m=k+1:=⟨m - 1,by omega⟩
    have hm1:(((m'+1:Nat):Int) - 1)=(m':Int):=by omega
    have HXE:=hid (show wrap64 ((x0:Int)+st)=a0+st*((j+1:Nat):Int) by
     have h1:=HX.out
     have h2:=HAB.out
     rcases HS.out with rfl|rfl
     ·rw [wrap_mid (by omega) (by omega)];omega
     ·rw [wrap_mid (by omega) (by omega)];omega)
    have HYE:=hid (show wrap64 ((y0:Int)+st)=b0+st*((j+1:Nat):Int) by
     have h1:=HY.out
     have h2:=HAB.out
     rcases HS.out with rfl|rfl
     ·rw [wrap_mid (by omega) (by omega)];omega
     ·rw [wrap_mid (by omega) (by omega)];omega)
    have hset:=Go.Joins.block_setCell HMV.out (i:=0) (.int .i64 m')
    have hbs:Below q V (V.setCell ⟨q,0,none⟩ (.int .i64 m')):=⟨rfl,rfl,rfl,by simp,fun k hk=>Below.heap_setCell _ _ _ _ (by show k≠q;omega)⟩
    have HST:=hid hset
    have HBS:=hid (HBV.out.trans hbs)
    clear heqs hset hbs
    go_wp2_with fail
    go_roundw
    case rel=>exact ⟨_,_,j+1,m',rfl,rfl,by go_num,by omega,HXE,HYE,HG2,HST,HBS⟩
    case measure=>simp [Go.RowKit.intOf];omega
  ·obtain rfl:m=0:=by omega
   have hRj:R=j:=HC.out.one ⟨by omega,HG.out,.inl (by omega)⟩
   refine wp_region_held_drew (S:=fun X=>X.cell? ⟨q,0,none⟩=some (.int .i64 (0:Nat))) (by kernel_rfl) hcq (fun hHeld=>?_)
   obtain ⟨V,hV⟩:∃ V,wr.drew=V:=⟨_,rfl⟩
   have HMV:Hid (V.heap[q]?=some (.cells #[.int .i64 (0:Nat)] 3 (0,0))):=hid (by rw [← hV];exact HM.out)
   have HBV:Hid (Below q w V):=hid (by rw [← hV];exact drewB HB.out)
   rw [hV] at hHeld ⊢
   clear hV hcq hcA hcB HM HB
   refine wpAnyH_take (i:=0) (oi:=OP.p61) (v:=.int .i64 (0:Nat)) rfl (by kernel_rfl) (by kernel_rfl) (by kernel_rfl) (fun _ _ _ h=>h) (Or.inl ⟨by rfl,fun X hX=>by have c0:X.cell? ⟨q,0,none⟩=some (.int .i64 (0:Nat)):=hX;go_simp⟩) hHeld ?_
   (try simp only [Act.put,List.setIfInBounds_toArray,List.set_cons_zero,List.set_cons_succ])
   refine wpAnyH_take (i:=1) (oi:=OP.p62) (v:=.bool false) rfl (by kernel_rfl) (by kernel_rfl) (by kernel_rfl) (fun _ _ _ h=>h) (Or.inl ⟨by rfl,fun X hX=>by go_simp⟩) hHeld ?_
   (try simp only [Act.put,List.setIfInBounds_toArray,List.set_cons_zero,List.set_cons_succ])
   refine wpAnyH_take (i:=2) (oi:=OP.p63) (v:=.bool false) rfl (by kernel_rfl) (by kernel_rfl) (by kernel_rfl) (fun _ _ _ h=>h) (Or.inl ⟨by rfl,fun X hX=>rfl⟩) hHeld ?_
   (try simp only [Act.put,List.setIfInBounds_toArray,List.set_cons_zero,List.set_cons_succ])
   refine wpAnyH_take (i:=3) (oi:=OP.p64) (v:=undef) rfl (by kernel_rfl) (by kernel_rfl) (by kernel_rfl) (fun _ _ _ h=>h) (Or.inr ⟨by rfl,rfl⟩) hHeld ?_
   (try simp only [Act.put,List.setIfInBounds_toArray,List.set_cons_zero,List.set_cons_succ])
   refine wpAnyH_take (i:=4) (oi:=OP.p65) (v:=undef) rfl (by kernel_rfl) (by kernel_rfl) (by kernel_rfl) (fun _ _ _ h=>h) (Or.inr ⟨by rfl,rfl⟩) hHeld ?_
   (try simp only [Act.put,List.setIfInBounds_toArray,List.set_cons_zero,List.set_cons_succ])
   refine wpAnyH_take (i:=5) (oi:=OP.p66) (v:=undef) rfl (by kernel_rfl) (by kernel_rfl) (by kernel_rfl) (fun _ _ _ h=>h) (Or.inr ⟨by rfl,rfl⟩) hHeld ?_
   (try simp only [Act.put,List.setIfInBounds_toArray,List.set_cons_zero,List.set_cons_succ])
   refine wpAnyH_take (i:=6) (oi:=OP.p67) (v:=undef) rfl (by kernel_rfl) (by kernel_rfl) (by kernel_rfl) (fun _ _ _ h=>h) (Or.inr ⟨by rfl,rfl⟩) hHeld ?_
   (try simp only [Act.put,List.setIfInBounds_toArray,List.set_cons_zero,List.set_cons_succ])
   refine wpAnyH_take (i:=7) (oi:=OP.p68) (v:=undef) rfl (by kernel_rfl) (by kernel_rfl) (by kernel_rfl) (fun _ _ _ h=>h) (Or.inr ⟨by rfl,rfl⟩) hHeld ?_
   (try simp only [Act.put,List.setIfInBounds_toArray,List.set_cons_zero,List.set_cons_succ])
   refine wpAnyH_take (i:=8) (oi:=OP.p69) (v:=undef) rfl (by kernel_rfl) (by kernel_rfl) (by kernel_rfl) (fun _ _ _ h=>h) (Or.inr ⟨by rfl,rfl⟩) hHeld ?_
   (try simp only [Act.put,List.setIfInBounds_toArray,List.set_cons_zero,List.set_cons_succ])
   refine wpAnyH_take (i:=9) (oi:=OP.p70) (v:=undef) rfl (by kernel_rfl) (by kernel_rfl) (by kernel_rfl) (fun _ _ _ h=>h) (Or.inr ⟨by rfl,rfl⟩) hHeld ?_
   (try simp only [Act.put,List.setIfInBounds_toArray,List.set_cons_zero,List.set_cons_succ])
   refine wpAnyH_take (i:=10) (oi:=OP.p71) (v:=undef) rfl (by kernel_rfl) (by kernel_rfl) (by kernel_rfl) (fun _ _ _ h=>h) (Or.inr ⟨by rfl,rfl⟩) hHeld ?_
   (try simp only [Act.put,List.setIfInBounds_toArray,List.set_cons_zero,List.set_cons_succ])
   refine wpAnyH_take (i:=11) (oi:=OP.p72) (v:=undef) rfl (by kernel_rfl) (by kernel_rfl) (by kernel_rfl) (fun _ _ _ h=>h) (Or.inr ⟨by rfl,rfl⟩) hHeld ?_
   (try simp only [Act.put,List.setIfInBounds_toArray,List.set_cons_zero,List.set_cons_succ])
   refine wpAnyH_take (i:=12) (oi:=OP.p73) (v:=undef) rfl (by kernel_rfl) (by kernel_rfl) (by kernel_rfl) (fun _ _ _ h=>h) (Or.inr ⟨by rfl,rfl⟩) hHeld ?_
   (try simp only [Act.put,List.setIfInBounds_toArray,List.set_cons_zero,List.set_cons_succ])
   refine wpAnyH_take (i:=13) (oi:=OP.p74) (v:=undef) rfl (by kernel_rfl) (by kernel_rfl) (by kernel_rfl) (fun _ _ _ h=>h) (Or.inr ⟨by rfl,rfl⟩) hHeld ?_
   (try simp only [Act.put,List.setIfInBounds_toArray,List.set_cons_zero,List.set_cons_succ])
   refine wpAnyH_take (i:=14) (oi:=OP.p75) (v:=.bool false) rfl (by kernel_rfl) (by kernel_rfl) (by kernel_rfl) (fun _ _ _ h=>h) (Or.inl ⟨by rfl,fun X hX=>rfl⟩) hHeld ?_
   (try simp only [Act.put,List.setIfInBounds_toArray,List.set_cons_zero,List.set_cons_succ])
   refine wpAnyH_done (by kernel_rfl) ?_ _
   clear hHeld
   go_wp2_with fail
   go_ret
   refine ⟨by rw [hRj];rfl,?_,HBV.out⟩
   rw [hRj,show left - j=0 by omega]
   exact HMV.out
theorem tx_low {w:World} {v:Value} {l:List ByteArray} (h:TxAt w v l):∀ g off n c,l≠[]→v=.slice (some ⟨g,off,none⟩) n c→g<w.heap.size:=by
 intro g off n c hl hv
 obtain ⟨a,c',h1,h2⟩:=h
 obtain ⟨g',off',h3,h4⟩:=h2.resolve_left hl
 have hp:0<l.length:=List.length_pos_iff.2 hl
 have h5:=World.block_lt_of_cell? w _ (h4 0 hp)
 rw [h1,h3] at hv
 cases hv
 exact h5
set_option maxHeartbeats 4000000 in
set_option maxRecDepth 20000 in
theorem shared_any (w:World) (TL TO:List ByteArray) (v v':Value) (hv:TxAt w v TL) (hv':TxAt w v' TO) (h1:TL.length≤1000000) (h2:TO.length≤1000000) :
  Calls Tryz.prog 34 #[v,v'] w fun e w'=>e=.returned (.tuple #[.int .i64 (headN TL TO:Nat),.int .i64 (tailN TL TO:Nat)])∧Below w.heap.size w w':=by
 have hmf:∀ (fn:Fn) (first cap:Array Value) (w:World),(Instr.makeFunc fn first cap).run Tryz.prog w=.ok (.func fn first cap) w:=fun _ _ _ _=>rfl
 have l1:=tx_low hv
 have l2:=tx_low hv'
 have hle:=(head_cnt TL TO).1
 obtain ⟨w1,hw1,hq1,hr1,ho1,hb1,hz1⟩:=three_new w (.cells #[v] 56) (.cells #[v'] 56) (.cells #[.int .i64 ((min TL.length TO.length:Nat):Int)] 3)
 have hA1:=(cell_one hq1).1
 have hB1:=(cell_one hr1).1
 have c1:=count_any (w.heap.size+1+1) w.heap.size (w.heap.size+1) w1 TL TO v v' (min TL.length TO.length) 0 0 1 (gH TL TO) ho1 hA1 hB1 (by omega) (by omega) (hv.later hb1) (hv'.later hb1) (fun g off n c e f=>by have:=l1 g off n c e f;omega) (fun g off n c e f=>by have:=l2 g off n c e f;omega)
  (fun j hj=>⟨j,j,by omega,by omega,by omega,by omega,by
   unfold gH
   rw [List.getElem?_eq_getElem (by omega),List.getElem?_eq_getElem (by omega)]
   simp⟩) (.inl rfl) (by omega) (by omega) (by omega)
 have c2:=fun (w2:World) (hq:w2.heap[w.heap.size+1+1]?=some (.cells #[.int .i64 ((min TL.length TO.length - headN TL TO:Nat):Int)] 3 (0,0))) (hb2:Below (w.heap.size+1+1) w1 w2) =>
  count_any (w.heap.size+1+1) w.heap.size (w.heap.size+1) w2 TL TO v v' (min TL.length TO.length - headN TL TO) ((TL.length:Int) - 1) ((TO.length:Int) - 1) (-1) (gT TL TO) hq ((hb2.cell (p:=⟨w.heap.size,0,none⟩) (by show w.heap.size<_;omega)).trans hA1) ((hb2.cell (p:=⟨w.heap.size+1,0,none⟩) (by show w.heap.size+1<_;omega)).trans hB1) (by omega) (by omega)
   (hv.later (hb1.trans (hb2.mono (by omega)))) (hv'.later (hb1.trans (hb2.mono (by omega)))) (fun g off n c e f=>by have:=l1 g off n c e f;omega) (fun g off n c e f=>by have:=l2 g off n c e f;omega)
   (fun j hj=>⟨TL.length - 1 - j,TO.length - 1 - j,by omega,by omega,by omega,by omega,by
    unfold gT
    rw [List.getElem?_eq_getElem (by omega),List.getElem?_eq_getElem (by omega)]
    simp⟩) (.inr rfl) (by omega) (by omega) (by omega)
 have ht:cnt (gT TL TO) (min TL.length TO.length - headN TL TO) 0=tailN TL TO:=rfl
 have hh:cnt (gH TL TO) (min TL.length TO.length) 0=headN TL TO:=rfl
 rw [hh] at c1
 rw [ht] at c2
 obtain ⟨a,c,rfl,_⟩:=hv
 obtain ⟨a',c',rfl,_⟩:=hv'
 obtain ⟨hd,hhd⟩:∃ x,headN TL TO=x:=⟨_,rfl⟩
 obtain ⟨tl,htl⟩:∃ x,tailN TL TO=x:=⟨_,rfl⟩
 rw [hhd] at c1 c2 ⊢
 rw [htl] at c2 ⊢
 obtain ⟨n,hn⟩:∃ n,TL.length=n:=⟨_,rfl⟩
 obtain ⟨n',hn'⟩:∃ n,TO.length=n:=⟨_,rfl⟩
 rw [hn,hn'] at hw1 c1 c2
 rw [hn] at h1 hA1 ⊢
 rw [hn'] at h2 hB1 ⊢
 have hmin:min (n:Int) (n':Int)=((min n n':Nat):Int):=by omega
 obtain ⟨m,hm⟩:∃ m,min n n'=m:=⟨_,rfl⟩
 rw [hm] at hmin hw1 c1 c2
 have HB1:=hid hb1
 have HZ1:=hid hz1
 have HC2:=hid c2
 have HAB:=hid (And.intro hA1 hB1)
 clear c2 hq1 hr1 ho1 hb1 hz1 l1 l2 hle ht hh hhd htl hn hn' hm hA1 hB1
 go_enter Tryz.func34,Tryz.ntmps34
 go_wp2_with fail
 refine c1.mono ?_
 rintro e w2 ⟨rfl,hq2,hb2⟩
 have c2:=HC2.out w2 hq2 hb2
 have hA2:=(hb2.cell (p:=⟨w.heap.size,0,none⟩) (by show w.heap.size<_;omega)).trans HAB.out.1
 have hB2:=(hb2.cell (p:=⟨w.heap.size+1,0,none⟩) (by show w.heap.size+1<_;omega)).trans HAB.out.2
 have HB2:=hid (HB1.out.trans (hb2.mono (by omega)))
 clear c1 hq2 hb2
 go_wp2_with fail
 refine c2.mono ?_
 rintro e w3 ⟨rfl,hq3,hb3⟩
 have HB3:=hid (HB2.out.trans (hb3.mono (by omega)))
 clear c2 hq3 hb3 hA2 hB2
 go_wp2_with fail
 go_ret2
 exact ⟨rfl,HB3.out⟩
end Go.Proofs.YtojoahlpgmnbnaaGreatDoor.Ud
namespace Go.Proofs.YtojoahlpgmnbnaaGreatDoor.Ud
open Go.RowKit
open Go.Lib hiding intOf
open U S Q T J
open Go.Proofs.YtojoahlpgmnbnaaGreatDoor.K (zeroP NnL Nn MTab)
theorem set_ten {W:World} {b:Nat} {t:TypeId} {u0 u1 u2 u3 u4 u5 u6 u7 u8 u9:Value} (v0 v1 v2 v3 v4 v5 v6 v7 v8 v9:Value) (h:W.heap[b]?=some (.cells #[u0,u1,u2,u3,u4,u5,u6,u7,u8,u9] t (0,0))) :
  ∃ W',(((((((((W.setCell ⟨b,0,none⟩ v0).setCell ⟨b,1,none⟩ v1).setCell ⟨b,2,none⟩ v2).setCell ⟨b,3,none⟩ v3).setCell ⟨b,4,none⟩ v4).setCell ⟨b,5,none⟩ v5).setCell ⟨b,6,none⟩ v6).setCell ⟨b,7,none⟩ v7).setCell ⟨b,8,none⟩ v8).setCell ⟨b,9,none⟩ v9=W'∧W'.heap[b]?=some (.cells #[v0,v1,v2,v3,v4,v5,v6,v7,v8,v9] t (0,0))∧(∀ k,k≠b→W'.heap[k]?=W.heap[k]?)∧∀ B,B≤b→Below B W W':=by
 have b1:∀ B,B≤b→∀ (X:World) (j:Nat) (v:Value),Below B X (X.setCell ⟨b,j,none⟩ v):=fun B hB X j v=>⟨rfl,rfl,rfl,by simp,fun k hk=>Below.heap_setCell _ _ _ _ (by show k≠b;omega)⟩
 have s0:(W.setCell ⟨b,0,none⟩ v0).heap[b]?=some (.cells #[v0,u1,u2,u3,u4,u5,u6,u7,u8,u9] t (0,0)):=Go.Joins.block_setCell h v0
 have s1:((W.setCell ⟨b,0,none⟩ v0).setCell ⟨b,1,none⟩ v1).heap[b]?=some (.cells #[v0,v1,u2,u3,u4,u5,u6,u7,u8,u9] t (0,0)):=Go.Joins.block_setCell s0 v1
 have s2:(((W.setCell ⟨b,0,none⟩ v0).setCell ⟨b,1,none⟩ v1).setCell ⟨b,2,none⟩ v2).heap[b]?=some (.cells #[v0,v1,v2,u3,u4,u5,u6,u7,u8,u9] t (0,0)):=Go.Joins.block_setCell s1 v2
 obtain ⟨X2,hX2⟩:∃ X,((W.setCell ⟨b,0,none⟩ v0).setCell ⟨b,1,none⟩ v1).setCell ⟨b,2,none⟩ v2=X:=⟨_,rfl⟩
 have o2:∀ k,k≠b→X2.heap[k]?=W.heap[k]?:=fun k hk=>by rw [← hX2];exact (Below.heap_setCell _ _ _ _ hk).trans ((Below.heap_setCell _ _ _ _ hk).trans (Below.heap_setCell _ _ _ _ hk))
 have l2:∀ B,B≤b→Below B W X2:=fun B hB=>by rw [← hX2];exact ((b1 B hB _ _ _).trans (b1 B hB _ _ _)).trans (b1 B hB _ _ _)
 rw [hX2] at s2 ⊢
 have s3:(X2.setCell ⟨b,3,none⟩ v3).heap[b]?=some (.cells #[v0,v1,v2,v3,u4,u5,u6,u7,u8,u9] t (0,0)):=Go.Joins.block_setCell s2 v3
 have s4:((X2.setCell ⟨b,3,none⟩ v3).setCell ⟨b,4,none⟩ v4).heap[b]?=some (.cells #[v0,v1,v2,v3,v4,u5,u6,u7,u8,u9] t (0,0)):=Go.Joins.block_setCell s3 v4
 have s5:(((X2.setCell ⟨b,3,none⟩ v3).setCell ⟨b,4,none⟩ v4).setCell ⟨b,5,none⟩ v5).heap[b]?=some (.cells #[v0,v1,v2,v3,v4,v5,u6,u7,u8,u9] t (0,0)):=Go.Joins.block_setCell s4 v5
 obtain ⟨X5,hX5⟩:∃ X,((X2.setCell ⟨b,3,none⟩ v3).setCell ⟨b,4,none⟩ v4).setCell ⟨b,5,none⟩ v5=X:=⟨_,rfl⟩
 have o5:∀ k,k≠b→X5.heap[k]?=W.heap[k]?:=fun k hk=>by rw [← hX5];exact ((Below.heap_setCell _ _ _ _ hk).trans ((Below.heap_setCell _ _ _ _ hk).trans (Below.heap_setCell _ _ _ _ hk))).trans (o2 k hk)
 have l5:∀ B,B≤b→Below B W X5:=fun B hB=>by rw [← hX5];exact (((l2 B hB).trans (b1 B hB _ _ _)).trans (b1 B hB _ _ _)).trans (b1 B hB _ _ _)
 rw [hX5] at s5 ⊢
 have s6:(X5.setCell ⟨b,6,none⟩ v6).heap[b]?=some (.cells #[v0,v1,v2,v3,v4,v5,v6,u7,u8,u9] t (0,0)):=Go.Joins.block_setCell s5 v6
 have s7:((X5.setCell ⟨b,6,none⟩ v6).setCell ⟨b,7,none⟩ v7).heap[b]?=some (.cells #[v0,v1,v2,v3,v4,v5,v6,v7,u8,u9] t (0,0)):=Go.Joins.block_setCell s6 v7
 have s8:(((X5.setCell ⟨b,6,none⟩ v6).setCell ⟨b,7,none⟩ v7).setCell ⟨b,8,none⟩ v8).heap[b]?=some (.cells #[v0,v1,v2,v3,v4,v5,v6,v7,v8,u9] t (0,0)):=Go.Joins.block_setCell s7 v8
 have s9:((((X5.setCell ⟨b,6,none⟩ v6).setCell ⟨b,7,none⟩ v7).setCell ⟨b,8,none⟩ v8).setCell ⟨b,9,none⟩ v9).heap[b]?=some (.cells #[v0,v1,v2,v3,v4,v5,v6,v7,v8,v9] t (0,0)):=Go.Joins.block_setCell s8 v9
 exact ⟨_,rfl,s9,fun k hk=>(Below.heap_setCell _ _ _ _ hk).trans ((Below.heap_setCell _ _ _ _ hk).trans ((Below.heap_setCell _ _ _ _ hk).trans ((Below.heap_setCell _ _ _ _ hk).trans (o5 k hk)))),fun B hB=>((((l5 B hB).trans (b1 B hB _ _ _)).trans (b1 B hB _ _ _)).trans (b1 B hB _ _ _)).trans (b1 B hB _ _ _)⟩
set_option maxHeartbeats 8000000 in
set_option maxRecDepth 20000 in
theorem keep_any (w0 w:World) (D OL:List DcP) (h m g cap cl:Nat) (v':Value) (hS:St w0.heap.size D h g cap w) (hm:h+m≤D.length) (hlen:D.length≤1000000) (hN:∀ d∈D,NnL (kidsP d.p)) (hO:OldIn w0.heap.size w0 OL v') (hmo:m≤OL.length) (holen:OL.length≤1000000)
  (heq:∀ i (hi:i<m),(OL[i]'(by omega)).p=(D[h+i]'(by omega)).p∧(OL[i]'(by omega)).a=(D[h+i]'(by omega)).a∧(OL[i]'(by omega)).r=(D[h+i]'(by omega)).r) (hb:Below w0.heap.size w0 w) :
  Calls Tryz.prog 35 #[.slice (some ⟨g,h*10,none⟩) m cl,v'] w fun e w'=>e=.returned (.tuple #[])∧St w0.heap.size D (h+m) g cap w'∧Below w0.heap.size w0 w'∧Oth g w w':=by
 have HS:=hid hS
 have HN:=hid hN
 have HO:=hid hO
 have HE:=hid heq
 have HB:=hid hb
 obtain ⟨oa,oc,rfl,hoc,_⟩:=hO
 obtain ⟨on,hon⟩:∃ n,OL.length=n:=⟨_,rfl⟩
 have HON:=hid hon
 rw [hon] at HO hmo holen hoc ⊢
 clear hS hN heq hb hon
 go_enter Tryz.func35,Tryz.ntmps35
 go_wp2_with fail
 go_loopw [9] (fun iv wr=>∃ i:Nat,iv=.int .i64 i∧i≤m∧Hid (St w0.heap.size D (h+i) g cap wr)∧Hid (Below w0.heap.size w0 wr)∧Hid (Oth g w wr)) (fun iv _=>m - (Go.RowKit.intOf iv).toNat)
 case atStart=>exact ⟨0,rfl,Nat.zero_le _,HS,HB,hid (Oth.refl g w)⟩
 case round =>
  obtain ⟨i,rfl,hi,HSr,HBr,HOr⟩:=hrel
  clear HS HB
  by_cases hlt:i<m
  ·have hj:h+i<D.length:=by omega
   have hio:i<OL.length:=by rw [HON.out];omega
   obtain ⟨a9,c9',e9,_,hrow⟩:=HO.out.later HBr.out
   simp only [Value.slice.injEq] at e9
   obtain ⟨rfl,_,rfl⟩:=e9
   obtain ⟨g2,off,rfl,hg2,hat⟩:=hrow.resolve_left (fun h=>by rw [h] at hio;exact Nat.not_lt_zero _ hio)
   obtain ⟨f,e,tx,k,t,pf,pe,ks,aa,cc,x,r,hK⟩:=dc_at (hat i hio)
   have hEi:=HE.out i hlt
   rw [hK.eq] at hEi
   have HEI:=hid (And.intro hEi.1.symm (And.intro hEi.2.1.symm hEi.2.2.symm))
   obtain ⟨y0,hy0⟩:∃ z,bstr k=z:=⟨_,rfl⟩
   obtain ⟨y1,hy1⟩:∃ z,bstr t=z:=⟨_,rfl⟩
   obtain ⟨z0,hz0⟩:∃ z,ks.length=z:=⟨_,rfl⟩
   have HY:=hid (And.intro hy0 hy1)
   have hkk:=hK.kids
   rw [hz0] at hkk
   have HK:=hid hkk
   have HM1:Hid (∀ X,Below wr.heap.size wr X→X.cell? ⟨g2,off+i*10,none⟩=some (.int .i64 f)∧X.cell? ⟨g2,off+i*10+1,none⟩=some (.int .i64 e)∧X.cell? ⟨g2,off+i*10+2,none⟩=some (.string tx)∧X.cell? ⟨g2,off+i*10+3,none⟩=some (.string y0)∧X.cell? ⟨g2,off+i*10+4,none⟩=some (.string y1)∧X.cell? ⟨g2,off+i*10+5,none⟩=some (.int .i64 pf)∧X.cell? ⟨g2,off+i*10+6,none⟩=some (.int .i64 pe)∧X.cell? ⟨g2,off+i*10+7,none⟩=some (.slice aa z0 cc)∧X.cell? ⟨g2,off+i*10+8,none⟩=some (.int .i64 x)∧X.cell? ⟨g2,off+i*10+9,none⟩=some (.int .i64 r)):=hid (fun X hX=>by
    have h:=hK.below hX
    rw [← hy0,← hy1,← hz0]
    exact ⟨h.c0,h.c1,h.c2,h.c3,h.c4,h.c5,h.c6,h.c7,h.c8,h.c9⟩)
   have hgw:=HSr.out.lt
   have hi10:i<on:=by omega
   clear hat hK hrow hEi hy0 hy1 hz0 hio hkk
   go_upto_region 3 with fail
   refine wp_region_held_drew (S:=fun X=>Below wr.heap.size wr X) (by kernel_rfl) (Below.refl wr.heap.size wr).drew (fun hHeld=>?_)
   have HSV:=hid (HSr.out.later (Below.refl wr.heap.size wr).drew)
   have HV0:=hid (show wr.drew.heap.size=wr.heap.size from rfl)
   have HBV:=hid (drewB HBr.out)
   obtain ⟨V,hV⟩:∃ V,wr.drew=V:=⟨_,rfl⟩
   rw [hV] at hHeld HSV HV0 HBV ⊢
   clear hV
   have HV:=hid hHeld
   refine wpAnyH_take (i:=0) (oi:=({ dst:=some 12,op:=Op.move (Operand.tmp 0),type:=56,pos := "list.go:46",after:=#[],guard:=none }:Oper)) (v:=.slice (some ⟨g,h*10,none⟩) m cl) rfl (by kernel_rfl) (by kernel_rfl) (by kernel_rfl) (fun _ _ _ h=>h) (Or.inl ⟨by rfl,fun X hX=>rfl⟩) hHeld ?_
   (try simp only [Act.put,List.setIfInBounds_toArray,List.set_cons_zero,List.set_cons_succ])
   refine wpAnyH_take (i:=1) (oi:=({ dst:=some 13,op:=Op.move (Operand.tmp 4),type:=3,pos := "list.go:46",after:=#[],guard:=none }:Oper)) (v:=.int .i64 i) rfl (by kernel_rfl) (by kernel_rfl) (by kernel_rfl) (fun _ _ _ h=>h) (Or.inl ⟨by rfl,fun X hX=>rfl⟩) hHeld ?_
   (try simp only [Act.put,List.setIfInBounds_toArray,List.set_cons_zero,List.set_cons_succ])
   refine wpAnyH_take (i:=2) (oi:=({ dst:=some 14,op:=Op.indexAddr 56 (Operand.tmp 12) (Operand.tmp 13),type:=0,pos := "list.go:46",after:=#[{ on:=0,ground:=Ground.data },{ on:=1,ground:=Ground.data }],guard:=none }:Oper)) (v:=.pointer (some ⟨g,h*10+i*10,none⟩)) rfl (by kernel_rfl) (by kernel_rfl) (by kernel_rfl) (fun _ _ _ h=>h) (Or.inl ⟨by rfl,fun X hX=>idx_rowU 12 13 g (h*10) m i cl X rfl rfl rfl hlt⟩) hHeld ?_
   (try simp only [Act.put,List.setIfInBounds_toArray,List.set_cons_zero,List.set_cons_succ])
   refine wpAnyH_take (i:=3) (oi:=({ dst:=some 15,op:=Op.move (Operand.tmp 1),type:=56,pos := "list.go:46",after:=#[{ on:=8,ground:=Ground.gcOnly Departure.lateStores }],guard:=none }:Oper)) (v:=.slice (some ⟨g2,off,none⟩) on oc) rfl (by kernel_rfl) (by kernel_rfl) (by kernel_rfl) (fun _ _ _ h=>h) (Or.inl ⟨by rfl,fun X hX=>rfl⟩) hHeld ?_
   (try simp only [Act.put,List.setIfInBounds_toArray,List.set_cons_zero,List.set_cons_succ])
   refine wpAnyH_take (i:=4) (oi:=({ dst:=some 16,op:=Op.move (Operand.tmp 4),type:=3,pos := "list.go:46",after:=#[{ on:=8,ground:=Ground.gcOnly Departure.lateStores }],guard:=none }:Oper)) (v:=.int .i64 i) rfl (by kernel_rfl) (by kernel_rfl) (by kernel_rfl) (fun _ _ _ h=>h) (Or.inl ⟨by rfl,fun X hX=>rfl⟩) hHeld ?_
   (try simp only [Act.put,List.setIfInBounds_toArray,List.set_cons_zero,List.set_cons_succ])
   refine wpAnyH_take (i:=5) (oi:=({ dst:=some 17,op:=Op.indexAddr 56 (Operand.tmp 15) (Operand.tmp 16),type:=0,pos := "list.go:46",after:=#[{ on:=3,ground:=Ground.data },{ on:=4,ground:=Ground.data },{ on:=8,ground:=Ground.gcOnly Departure.lateStores }],guard:=none }:Oper)) (v:=.pointer (some ⟨g2,off+i*10,none⟩)) rfl (by kernel_rfl) (by kernel_rfl) (by kernel_rfl) (fun _ _ _ h=>h) (Or.inl ⟨by rfl,fun X hX=>idx_rowU 15 16 g2 off on i oc X rfl rfl rfl hi10⟩) hHeld ?_
   (try simp only [Act.put,List.setIfInBounds_toArray,List.set_cons_zero,List.set_cons_succ])
   refine wpAnyH_take (i:=6) (oi:=({ dst:=some 18,op:=Op.load 52 (Operand.tmp 17),type:=52,pos := "list.go:46",after:=#[{ on:=5,ground:=Ground.data },{ on:=8,ground:=Ground.gcOnly Departure.lateStores }],guard:=none }:Oper)) (v:=.agg #[.int .i64 f,.int .i64 e,.string tx,.string y0,.string y1,.int .i64 pf,.int .i64 pe,.slice aa z0 cc,.int .i64 x,.int .i64 r]) rfl (by kernel_rfl) (by kernel_rfl) (by kernel_rfl) (fun _ _ _ h=>h) (Or.inl ⟨by rfl,fun X hX=>by obtain ⟨k0,k1,k2,k3,k4,k5,k6,k7,k8,k9⟩:=HM1.out X hX;go_simp⟩) hHeld ?_
   (try simp only [Act.put,List.setIfInBounds_toArray,List.set_cons_zero,List.set_cons_succ])
   refine wpAnyH_ready (rs:=[7]) (by kernel_rfl) (by simp) ?_
   refine (AllReadyH.cons (o:=({ dst:=some 6,op:=Op.alloc 52,type:=0,pos := "list.go:46",after:=#[],guard:=none }:Oper)) rfl (fun K hK=>?_) AllReadyH.nil)
   refine wanted_step (by kernel_rfl) ?_
   go_simp
   obtain ⟨X1,hX1,f1,b1,z1⟩:=new_block V (.cells #[.int .i64 0,.int .i64 0,.string ⟨#[]⟩,.string ⟨#[]⟩,.string ⟨#[]⟩,.int .i64 0,.int .i64 0,.slice none 0 0,.int .i64 0,.int .i64 0] 52)
   rw [hX1]
   rw [HV0.out] at f1 b1 z1 ⊢
   have HS1:=hid (HSV.out.later (by rw [HV0.out];exact b1))
   have HB1:=hid (HBV.out.trans (b1.mono HBr.out.size))
   have hb1:=HV.out.trans b1
   clear hX1
   refine hK.out _ _ hb1 (fun hHeld=>?_)
   (try simp only [Act.put,List.setIfInBounds_toArray,List.set_cons_zero,List.set_cons_succ])
   clear hK K
   refine wpAnyH_take (i:=8) (oi:=({ dst:=some 5,op:=Op.assign (Operand.tmp 14),type:=93,pos := "list.go:46",after:=#[{ on:=2,ground:=Ground.data },{ on:=0,ground:=Ground.phase },{ on:=1,ground:=Ground.phase },{ on:=2,ground:=Ground.phase },{ on:=3,ground:=Ground.textOnly Departure.lateStores },{ on:=4,ground:=Ground.textOnly Departure.lateStores },{ on:=5,ground:=Ground.textOnly Departure.lateStores },{ on:=6,ground:=Ground.textOnly Departure.lateStores },{ on:=7,ground:=Ground.phase }],guard:=none }:Oper)) (v:=.pointer (some ⟨g,h*10+i*10,none⟩)) rfl (by kernel_rfl) (by kernel_rfl) (by kernel_rfl) (fun _ _ _ h=>h) (Or.inl ⟨by rfl,fun X hX=>rfl⟩) hHeld ?_
   (try simp only [Act.put,List.setIfInBounds_toArray,List.set_cons_zero,List.set_cons_succ])
   refine wpAnyH_ready (rs:=[9]) (by kernel_rfl) (by simp) ?_
   refine (AllReadyH.cons (o:=({ dst:=none,op:=Op.store 52 (Operand.tmp 6) (Operand.tmp 18),type:=0,pos := "list.go:46",after:=#[{ on:=7,ground:=Ground.data },{ on:=6,ground:=Ground.data },{ on:=8,ground:=Ground.chain },{ on:=0,ground:=Ground.phase },{ on:=1,ground:=Ground.phase },{ on:=2,ground:=Ground.phase },{ on:=3,ground:=Ground.phase },{ on:=4,ground:=Ground.phase },{ on:=5,ground:=Ground.phase },{ on:=6,ground:=Ground.phase },{ on:=7,ground:=Ground.phase },{ on:=8,ground:=Ground.phase }],guard:=none }:Oper)) rfl (fun K hK=>?_) AllReadyH.nil)
   refine wanted_step (by kernel_rfl) ?_
   obtain ⟨⟨k0,k1,k2,k3,k4,k5,k6,k7,k8,k9⟩,kf⟩:=cells_ten f1
   obtain ⟨X2,hX2,f2,o2,b2⟩:=set_ten (.int .i64 f) (.int .i64 e) (.string tx) (.string y0) (.string y1) (.int .i64 pf) (.int .i64 pe) (.slice aa z0 cc) (.int .i64 x) (.int .i64 r) f1
   go_simp
   have hb2:Below wr.heap.size wr X2:=hb1.trans (b2 _ (Nat.le_refl _))
   have HS2:=hid (HSr.out.later hb2)
   have HB2:=hid (HBr.out.trans (hb2.mono HBr.out.size))
   have HO2:=hid (HOr.out.below hb2)
   clear k0 k1 k2 k3 k4 k5 k6 k7 k8 k9 kf hX2 f1 b1 z1 o2 b2 HS1 HB1
   refine hK.out _ _ hb2 (fun hHeld=>?_)
   (try simp only [Act.put,List.setIfInBounds_toArray,List.set_cons_zero,List.set_cons_succ])
   clear hK K
   refine wpAnyH_done (by kernel_rfl) ?_ _
   obtain ⟨B6,hB6⟩:∃ b,wr.heap.size=b:=⟨_,rfl⟩
   have hgB:g≠B6:=by omega
   have HK2:=hid (KidsIn.later (R':=fun _=>True) (fun b hb _=>(HBr.out.trans (hb2.mono HBr.out.size)).block b hb) (fun _ _=>trivial) _ _ (KidsIn.later (W':=w0) (R':=fun k=>k<w0.heap.size) (fun b hb _=>(HBr.out.block b hb).symm) (fun _ h=>h) _ _ HK.out))
   rw [hB6] at f2 ⊢
   clear hHeld hb2 hb1 HV HSV HV0 HBV HM1 HSr HBr hgw hB6
   go_upto_region 4 with fail
   refine wp_region_held_drew (S:=fun X=>X.heap[B6]?=some (.cells #[.int .i64 f,.int .i64 e,.string tx,.string y0,.string y1,.int .i64 pf,.int .i64 pe,.slice aa z0 cc,.int .i64 x,.int .i64 r] 52 (0,0))) (by kernel_rfl) f2 (fun hHeld=>?_)
   have HS3:=hid (HS2.out.later (Below.refl X2.heap.size X2).drew)
   have HB3:=hid (drewB HB2.out)
   have HO3:=hid (HO2.out.below (Below.refl X2.heap.size X2).drew)
   have HK3:=hid (KidsIn.later (R:=fun _=>True) (R':=fun _=>True) (W:=X2) (W':=X2.drew) (fun _ _ _=>rfl) (fun _ h=>h) _ _ HK2.out)
   obtain ⟨V,hV⟩:∃ V,X2.drew=V:=⟨_,rfl⟩
   rw [hV] at hHeld HS3 HB3 HK3 HO3 ⊢
   clear hV f2 HS2 HB2 HK2 HO2
   have hH:=hid hHeld
   refine wpAnyH_take (i:=0) (oi:=({ dst:=some 19,op:=Op.move (Operand.tmp 5),type:=93,pos := "list.go:47",after:=#[],guard:=none }:Oper)) (v:=.pointer (some ⟨g,h*10+i*10,none⟩)) rfl (by kernel_rfl) (by kernel_rfl) (by kernel_rfl) (fun _ _ _ h=>h) (Or.inl ⟨by rfl,fun X hX=>rfl⟩) hHeld ?_
   (try simp only [Act.put,List.setIfInBounds_toArray,List.set_cons_zero,List.set_cons_succ])
   refine wpAnyH_take (i:=1) (oi:=({ dst:=some 20,op:=Op.move (Operand.tmp 5),type:=93,pos := "list.go:47",after:=#[{ on:=11,ground:=Ground.gcOnly Departure.lateStores }],guard:=none }:Oper)) (v:=.pointer (some ⟨g,h*10+i*10,none⟩)) rfl (by kernel_rfl) (by kernel_rfl) (by kernel_rfl) (fun _ _ _ h=>h) (Or.inl ⟨by rfl,fun X hX=>rfl⟩) hHeld ?_
   (try simp only [Act.put,List.setIfInBounds_toArray,List.set_cons_zero,List.set_cons_succ])
   refine wpAnyH_take (i:=2) (oi:=({ dst:=some 21,op:=Op.move (Operand.tmp 5),type:=93,pos := "list.go:47",after:=#[{ on:=14,ground:=Ground.gcOnly Departure.lateStores }],guard:=none }:Oper)) (v:=.pointer (some ⟨g,h*10+i*10,none⟩)) rfl (by kernel_rfl) (by kernel_rfl) (by kernel_rfl) (fun _ _ _ h=>h) (Or.inl ⟨by rfl,fun X hX=>rfl⟩) hHeld ?_
   (try simp only [Act.put,List.setIfInBounds_toArray,List.set_cons_zero,List.set_cons_succ])
   refine wpAnyH_take (i:=3) (oi:=({ dst:=some 22,op:=Op.fieldAddr 52 (Operand.tmp 6) 3,type:=0,pos := "list.go:47",after:=#[],guard:=none }:Oper)) (v:=.pointer (some ⟨B6,3,none⟩)) rfl (by kernel_rfl) (by kernel_rfl) (by kernel_rfl) (fun _ _ _ h=>h) (Or.inl ⟨by rfl,fun X hX=>rfl⟩) hHeld ?_
   (try simp only [Act.put,List.setIfInBounds_toArray,List.set_cons_zero,List.set_cons_succ])
   refine wpAnyH_take (i:=4) (oi:=({ dst:=some 23,op:=Op.load 49 (Operand.tmp 22),type:=49,pos := "list.go:47",after:=#[{ on:=3,ground:=Ground.data }],guard:=none }:Oper)) (v:=.agg #[.string y0,.string y1,.int .i64 pf,.int .i64 pe,.slice aa z0 cc]) rfl (by kernel_rfl) (by kernel_rfl) (by kernel_rfl) (fun _ _ _ h=>h) (Or.inl ⟨by rfl,fun X hX=>by obtain ⟨⟨k0,k1,k2,k3,k4,k5,k6,k7,k8,k9⟩,_⟩:=cells_ten hX;go_simp⟩) hHeld ?_
   (try simp only [Act.put,List.setIfInBounds_toArray,List.set_cons_zero,List.set_cons_succ])
   refine wpAnyH_take (i:=5) (oi:=({ dst:=some 24,op:=Op.fieldAddr 52 (Operand.tmp 6) 4,type:=0,pos := "list.go:47",after:=#[{ on:=11,ground:=Ground.gcOnly Departure.lateStores }],guard:=none }:Oper)) (v:=.pointer (some ⟨B6,8,none⟩)) rfl (by kernel_rfl) (by kernel_rfl) (by kernel_rfl) (fun _ _ _ h=>h) (Or.inl ⟨by rfl,fun X hX=>rfl⟩) hHeld ?_
   (try simp only [Act.put,List.setIfInBounds_toArray,List.set_cons_zero,List.set_cons_succ])
   refine wpAnyH_take (i:=6) (oi:=({ dst:=some 25,op:=Op.load 3 (Operand.tmp 24),type:=3,pos := "list.go:47",after:=#[{ on:=5,ground:=Ground.data },{ on:=11,ground:=Ground.gcOnly Departure.lateStores }],guard:=none }:Oper)) (v:=.int .i64 x) rfl (by kernel_rfl) (by kernel_rfl) (by kernel_rfl) (fun _ _ _ h=>h) (Or.inl ⟨by rfl,fun X hX=>by obtain ⟨⟨k0,k1,k2,k3,k4,k5,k6,k7,k8,k9⟩,_⟩:=cells_ten hX;go_simp⟩) hHeld ?_
   (try simp only [Act.put,List.setIfInBounds_toArray,List.set_cons_zero,List.set_cons_succ])
   refine wpAnyH_take (i:=7) (oi:=({ dst:=some 26,op:=Op.fieldAddr 52 (Operand.tmp 6) 5,type:=0,pos := "list.go:47",after:=#[{ on:=14,ground:=Ground.gcOnly Departure.lateStores }],guard:=none }:Oper)) (v:=.pointer (some ⟨B6,9,none⟩)) rfl (by kernel_rfl) (by kernel_rfl) (by kernel_rfl) (fun _ _ _ h=>h) (Or.inl ⟨by rfl,fun X hX=>rfl⟩) hHeld ?_
   (try simp only [Act.put,List.setIfInBounds_toArray,List.set_cons_zero,List.set_cons_succ])
   refine wpAnyH_take (i:=8) (oi:=({ dst:=some 27,op:=Op.load 50 (Operand.tmp 26),type:=50,pos := "list.go:47",after:=#[{ on:=7,ground:=Ground.data },{ on:=14,ground:=Ground.gcOnly Departure.lateStores }],guard:=none }:Oper)) (v:=.int .i64 r) rfl (by kernel_rfl) (by kernel_rfl) (by kernel_rfl) (fun _ _ _ h=>h) (Or.inl ⟨by rfl,fun X hX=>by obtain ⟨⟨k0,k1,k2,k3,k4,k5,k6,k7,k8,k9⟩,_⟩:=cells_ten hX;go_simp⟩) hHeld ?_
   (try simp only [Act.put,List.setIfInBounds_toArray,List.set_cons_zero,List.set_cons_succ])
   refine wpAnyH_take (i:=9) (oi:=({ dst:=some 28,op:=Op.nilCheck (Operand.tmp 19),type:=0,pos := "list.go:47",after:=#[{ on:=0,ground:=Ground.data },{ on:=0,ground:=Ground.phase },{ on:=1,ground:=Ground.textOnly Departure.lateStores },{ on:=2,ground:=Ground.textOnly Departure.lateStores },{ on:=3,ground:=Ground.phase },{ on:=4,ground:=Ground.phase },{ on:=5,ground:=Ground.textOnly Departure.lateStores },{ on:=6,ground:=Ground.textOnly Departure.lateStores },{ on:=7,ground:=Ground.textOnly Departure.lateStores },{ on:=8,ground:=Ground.textOnly Departure.lateStores }],guard:=none }:Oper)) (v:=.pointer (some ⟨g,h*10+i*10,none⟩)) rfl (by kernel_rfl) (by kernel_rfl) (by kernel_rfl) (fun _ _ _ h=>h) (Or.inl ⟨by rfl,fun X hX=>by go_simp⟩) hHeld ?_
   (try simp only [Act.put,List.setIfInBounds_toArray,List.set_cons_zero,List.set_cons_succ])
   refine wpAnyH_take (i:=10) (oi:=({ dst:=some 29,op:=Op.fieldAddr 52 (Operand.tmp 28) 3,type:=0,pos := "list.go:47",after:=#[{ on:=9,ground:=Ground.data },{ on:=0,ground:=Ground.phase },{ on:=1,ground:=Ground.textOnly Departure.lateStores },{ on:=2,ground:=Ground.textOnly Departure.lateStores },{ on:=3,ground:=Ground.phase },{ on:=4,ground:=Ground.phase },{ on:=5,ground:=Ground.textOnly Departure.lateStores },{ on:=6,ground:=Ground.textOnly Departure.lateStores },{ on:=7,ground:=Ground.textOnly Departure.lateStores },{ on:=8,ground:=Ground.textOnly Departure.lateStores }],guard:=none }:Oper)) (v:=.pointer (some ⟨g,h*10+i*10+3,none⟩)) rfl (by kernel_rfl) (by kernel_rfl) (by kernel_rfl) (fun _ _ _ h=>h) (Or.inl ⟨by rfl,fun X hX=>rfl⟩) hHeld ?_
   (try simp only [Act.put,List.setIfInBounds_toArray,List.set_cons_zero,List.set_cons_succ])
   refine wpAnyH_ready (rs:=[11]) (by kernel_rfl) (by simp) ?_
   refine (AllReadyH.cons (o:=({ dst:=none,op:=Op.store 49 (Operand.tmp 29) (Operand.tmp 23),type:=0,pos := "list.go:47",after:=#[{ on:=10,ground:=Ground.data },{ on:=4,ground:=Ground.data },{ on:=0,ground:=Ground.phase },{ on:=1,ground:=Ground.textOnly Departure.lateStores },{ on:=2,ground:=Ground.textOnly Departure.lateStores },{ on:=3,ground:=Ground.phase },{ on:=4,ground:=Ground.phase },{ on:=5,ground:=Ground.textOnly Departure.lateStores },{ on:=6,ground:=Ground.textOnly Departure.lateStores },{ on:=7,ground:=Ground.textOnly Departure.lateStores },{ on:=8,ground:=Ground.textOnly Departure.lateStores }],guard:=none }:Oper)) rfl (fun K hK=>?_) AllReadyH.nil)
   refine wanted_step (by kernel_rfl) ?_
   obtain ⟨cur,h1,h2,⟨c0,c1,c2,c3,c4,c5,c6,c7,c8,c9⟩,cf⟩:=HS3.out.cells hj (o:=h*10+i*10) (by omega)
   obtain ⟨W1,cur1,hW1,e2,e3,e4,e5,e6,e7⟩:=set5_at (o:=h*10+i*10+3) (.string y0) (.string y1) (.int .i64 pf) (.int .i64 pe) (.slice aa z0 cc) h1 (by omega)
   obtain ⟨W',hW',hS4,hb4,ho4⟩:=HS3.out.done hj (o:=h*10+i*10) (by omega) HN.out (x:=x) (r:=r) HEI.out HK3.out HY.out.1 HY.out.2
   rw [hW1] at hW'
   have d8:W1.cell? ⟨g,h*10+i*10+8,none⟩=some (.int .i64 0):=(cell_cur e2 _).trans ((e5 _ (by omega)).trans ((cell_cur h1 _).symm.trans c8))
   have d9:W1.cell? ⟨g,h*10+i*10+9,none⟩=some (.int .i64 0):=(cell_cur e2 _).trans ((e5 _ (by omega)).trans ((cell_cur h1 _).symm.trans c9))
   have df:=frozen_cur e2
   have HS4:=hid hS4
   have HB4:=hid (HB3.out.trans hb4)
   have HO4:=hid (HO3.out.step hb4 ho4)
   have HQ1:=(e6 B6 (Ne.symm hgB)).trans hH.out
   have HQ2:(W1.setCell ⟨g,h*10+i*10+8,none⟩ (.int .i64 x)).heap[B6]?=some (.cells #[.int .i64 f,.int .i64 e,.string tx,.string y0,.string y1,.int .i64 pf,.int .i64 pe,.slice aa z0 cc,.int .i64 x,.int .i64 r] 52 (0,0)):=(Below.heap_setCell _ _ _ _ (by show B6≠g;exact Ne.symm hgB)).trans HQ1
   have HQ3:W'.heap[B6]?=some (.cells #[.int .i64 f,.int .i64 e,.string tx,.string y0,.string y1,.int .i64 pf,.int .i64 pe,.slice aa z0 cc,.int .i64 x,.int .i64 r] 52 (0,0)):=by
    rw [← hW']
    exact (Below.heap_setCell _ _ _ _ (by show B6≠g;exact Ne.symm hgB)).trans HQ2
   clear e3 e4 e5 e6 e7 hS4 hb4 ho4 e2 h1 h2 c0 c1 c2 c8 c9
   go_simp
   clear c3 c4 c5 c6 c7 cf hW1
   refine hK.out _ _ HQ1 (fun hHeld=>?_)
   (try simp only [Act.put,List.setIfInBounds_toArray,List.set_cons_zero,List.set_cons_succ])
   clear hK K
   refine wpAnyH_take (i:=12) (oi:=({ dst:=some 30,op:=Op.nilCheck (Operand.tmp 20),type:=0,pos := "list.go:47",after:=#[{ on:=1,ground:=Ground.data },{ on:=0,ground:=Ground.phase },{ on:=1,ground:=Ground.phase },{ on:=2,ground:=Ground.textOnly Departure.lateStores },{ on:=3,ground:=Ground.phase },{ on:=4,ground:=Ground.phase },{ on:=5,ground:=Ground.phase },{ on:=6,ground:=Ground.phase },{ on:=7,ground:=Ground.textOnly Departure.lateStores },{ on:=8,ground:=Ground.textOnly Departure.lateStores },{ on:=9,ground:=Ground.phase },{ on:=10,ground:=Ground.phase },{ on:=11,ground:=Ground.phase }],guard:=none }:Oper)) (v:=.pointer (some ⟨g,h*10+i*10,none⟩)) rfl (by kernel_rfl) (by kernel_rfl) (by kernel_rfl) (fun _ _ _ h=>h) (Or.inl ⟨by rfl,fun X hX=>by go_simp⟩) hHeld ?_
   (try simp only [Act.put,List.setIfInBounds_toArray,List.set_cons_zero,List.set_cons_succ])
   refine wpAnyH_take (i:=13) (oi:=({ dst:=some 31,op:=Op.fieldAddr 52 (Operand.tmp 30) 4,type:=0,pos := "list.go:47",after:=#[{ on:=12,ground:=Ground.data },{ on:=0,ground:=Ground.phase },{ on:=1,ground:=Ground.phase },{ on:=2,ground:=Ground.textOnly Departure.lateStores },{ on:=3,ground:=Ground.phase },{ on:=4,ground:=Ground.phase },{ on:=5,ground:=Ground.phase },{ on:=6,ground:=Ground.phase },{ on:=7,ground:=Ground.textOnly Departure.lateStores },{ on:=8,ground:=Ground.textOnly Departure.lateStores },{ on:=9,ground:=Ground.phase },{ on:=10,ground:=Ground.phase },{ on:=11,ground:=Ground.phase }],guard:=none }:Oper)) (v:=.pointer (some ⟨g,h*10+i*10+8,none⟩)) rfl (by kernel_rfl) (by kernel_rfl) (by kernel_rfl) (fun _ _ _ h=>h) (Or.inl ⟨by rfl,fun X hX=>rfl⟩) hHeld ?_
   (try simp only [Act.put,List.setIfInBounds_toArray,List.set_cons_zero,List.set_cons_succ])
   refine wpAnyH_ready (rs:=[14]) (by kernel_rfl) (by simp) ?_
   refine (AllReadyH.cons (o:=({ dst:=none,op:=Op.store 3 (Operand.tmp 31) (Operand.tmp 25),type:=0,pos := "list.go:47",after:=#[{ on:=13,ground:=Ground.data },{ on:=6,ground:=Ground.data },{ on:=11,ground:=Ground.chain },{ on:=0,ground:=Ground.phase },{ on:=1,ground:=Ground.phase },{ on:=2,ground:=Ground.textOnly Departure.lateStores },{ on:=3,ground:=Ground.phase },{ on:=4,ground:=Ground.phase },{ on:=5,ground:=Ground.phase },{ on:=6,ground:=Ground.phase },{ on:=7,ground:=Ground.textOnly Departure.lateStores },{ on:=8,ground:=Ground.textOnly Departure.lateStores },{ on:=9,ground:=Ground.phase },{ on:=10,ground:=Ground.phase },{ on:=11,ground:=Ground.phase }],guard:=none }:Oper)) rfl (fun K hK=>?_) AllReadyH.nil)
   refine wanted_step (by kernel_rfl) ?_
   have dd9:(W1.setCell ⟨g,h*10+i*10+8,none⟩ (.int .i64 x)).cell? ⟨g,h*10+i*10+9,none⟩=some (.int .i64 0):=by go_simp
   have ddf:(W1.setCell ⟨g,h*10+i*10+8,none⟩ (.int .i64 x)).frozen? ⟨g,h*10+i*10+9,none⟩=false:=by have:=df (h*10+i*10+9);go_simp
   have df8:=df (h*10+i*10+8)
   go_simp
   refine hK.out _ _ HQ2 (fun hHeld=>?_)
   (try simp only [Act.put,List.setIfInBounds_toArray,List.set_cons_zero,List.set_cons_succ])
   clear hK K
   refine wpAnyH_take (i:=15) (oi:=({ dst:=some 32,op:=Op.nilCheck (Operand.tmp 21),type:=0,pos := "list.go:47",after:=#[{ on:=2,ground:=Ground.data },{ on:=0,ground:=Ground.phase },{ on:=1,ground:=Ground.phase },{ on:=2,ground:=Ground.phase },{ on:=3,ground:=Ground.phase },{ on:=4,ground:=Ground.phase },{ on:=5,ground:=Ground.phase },{ on:=6,ground:=Ground.phase },{ on:=7,ground:=Ground.phase },{ on:=8,ground:=Ground.phase },{ on:=9,ground:=Ground.phase },{ on:=10,ground:=Ground.phase },{ on:=11,ground:=Ground.phase },{ on:=12,ground:=Ground.phase },{ on:=13,ground:=Ground.phase },{ on:=14,ground:=Ground.phase }],guard:=none }:Oper)) (v:=.pointer (some ⟨g,h*10+i*10,none⟩)) rfl (by kernel_rfl) (by kernel_rfl) (by kernel_rfl) (fun _ _ _ h=>h) (Or.inl ⟨by rfl,fun X hX=>by go_simp⟩) hHeld ?_
   (try simp only [Act.put,List.setIfInBounds_toArray,List.set_cons_zero,List.set_cons_succ])
   refine wpAnyH_take (i:=16) (oi:=({ dst:=some 33,op:=Op.fieldAddr 52 (Operand.tmp 32) 5,type:=0,pos := "list.go:47",after:=#[{ on:=15,ground:=Ground.data },{ on:=0,ground:=Ground.phase },{ on:=1,ground:=Ground.phase },{ on:=2,ground:=Ground.phase },{ on:=3,ground:=Ground.phase },{ on:=4,ground:=Ground.phase },{ on:=5,ground:=Ground.phase },{ on:=6,ground:=Ground.phase },{ on:=7,ground:=Ground.phase },{ on:=8,ground:=Ground.phase },{ on:=9,ground:=Ground.phase },{ on:=10,ground:=Ground.phase },{ on:=11,ground:=Ground.phase },{ on:=12,ground:=Ground.phase },{ on:=13,ground:=Ground.phase },{ on:=14,ground:=Ground.phase }],guard:=none }:Oper)) (v:=.pointer (some ⟨g,h*10+i*10+9,none⟩)) rfl (by kernel_rfl) (by kernel_rfl) (by kernel_rfl) (fun _ _ _ h=>h) (Or.inl ⟨by rfl,fun X hX=>rfl⟩) hHeld ?_
   (try simp only [Act.put,List.setIfInBounds_toArray,List.set_cons_zero,List.set_cons_succ])
   refine wpAnyH_ready (rs:=[17]) (by kernel_rfl) (by simp) ?_
   refine (AllReadyH.cons (o:=({ dst:=none,op:=Op.store 50 (Operand.tmp 33) (Operand.tmp 27),type:=0,pos := "list.go:47",after:=#[{ on:=16,ground:=Ground.data },{ on:=8,ground:=Ground.data },{ on:=14,ground:=Ground.chain },{ on:=0,ground:=Ground.phase },{ on:=1,ground:=Ground.phase },{ on:=2,ground:=Ground.phase },{ on:=3,ground:=Ground.phase },{ on:=4,ground:=Ground.phase },{ on:=5,ground:=Ground.phase },{ on:=6,ground:=Ground.phase },{ on:=7,ground:=Ground.phase },{ on:=8,ground:=Ground.phase },{ on:=9,ground:=Ground.phase },{ on:=10,ground:=Ground.phase },{ on:=11,ground:=Ground.phase },{ on:=12,ground:=Ground.phase },{ on:=13,ground:=Ground.phase },{ on:=14,ground:=Ground.phase }],guard:=none }:Oper)) rfl (fun K hK=>?_) AllReadyH.nil)
   refine wanted_step (by kernel_rfl) ?_
   go_simp
   refine hK.out _ _ HQ3 (fun hHeld=>?_)
   (try simp only [Act.put,List.setIfInBounds_toArray,List.set_cons_zero,List.set_cons_succ])
   clear hK K
   refine wpAnyH_done (by kernel_rfl) ?_ _
   clear hHeld HQ1 HQ2 HQ3 dd9 ddf df8 d8 d9 df hW'
   go_wp2_with fail
   go_roundw
   case rel=>exact ⟨_,_,_,_,⟨i+1,rfl,by omega,HS4⟩,rfl,rfl,rfl,by go_num⟩
   case measure=>simp [Go.RowKit.intOf];omega
  ·obtain rfl:i=m:=by omega
   go_wp2_with fail
   exact bodyPost_end (results_none rfl _ _ _) rfl ⟨rfl,HSr.out,HBr.out,HOr.out⟩
end Go.Proofs.YtojoahlpgmnbnaaGreatDoor.Ud
namespace Go.Proofs.YtojoahlpgmnbnaaGreatDoor.J
open Go.RowKit
open Go.Lib hiding intOf
open U S T
mutual
theorem kids_lt {W:World} {R:Nat→Prop}:∀ (p:Pt) (lv:Value),KidsIn W R p lv→KidsIn W (fun k=>R k∧k<W.heap.size) p lv
 | .mk k t f e ks,lv,h=>by
  obtain ⟨a,cap,h1,h0,h2⟩:=h
  refine ⟨a,cap,h1,h0,?_⟩
  rcases h2 with h2|⟨g,off,xs,h3,h4,h5,h6⟩
  ·exact .inl h2
  ·cases ks with
   | nil=>exact .inl rfl
   | cons p r =>
    have hl:g<W.heap.size:=by
     obtain ⟨lv',rest,rfl,_,_⟩:=h6
     cases p
     exact World.block_lt_of_cell? W _ (h5 0 _ rfl)
    exact .inr ⟨g,off,xs,h3,⟨h4,hl⟩,h5,parts_lt _ _ h6⟩
theorem parts_lt {W:World} {R:Nat→Prop}:∀ (l:List Pt) (xs:List Value),PartsIn W R l xs→PartsIn W (fun k=>R k∧k<W.heap.size) l xs
 | [],_,h=>h
 | p :: r,xs,h=>by
  obtain ⟨lv,rest,h1,h2,h3⟩:=h
  exact ⟨lv,rest,h1,kids_lt p lv h2,parts_lt r rest h3⟩
end
theorem rows_lt {W:World} {R:Nat→Prop} {l:List Pt} {xs:List Value} (h:PartsIn W R l xs):PartsIn W (fun k=>R k∧k<W.heap.size) l xs:=parts_lt l xs h
structure Acc (H:Nat) (b:Int) (ks:List Pt) (c0 c1 c2 c3:Value) (i:Nat) (vO:Value) (X:World):Prop where
 o:X.heap[H+1+1]?=some (.cells #[c0,c1,c2,c3,vO] 49 (0,0))
 q:X.heap[H+1]?=some (.cells #[.string ⟨#[]⟩,.string ⟨#[]⟩,.int .i64 0,.int .i64 0,.slice none 0 0] 49 (0,0))
 row:∃ ys:List Value,X.ownsRow (H+3) 49 5 vO i ys∧PartsIn X (fun k=>H+3≤k∧vO.ownBlock≠some k) (shiftL b (ks.take i)) ys
theorem Acc.below {H i:Nat} {b:Int} {ks:List Pt} {c0 c1 c2 c3 vO:Value} {X X':World} (h:Acc H b ks c0 c1 c2 c3 i vO X) (hb:Below X.heap.size X X'):Acc H b ks c0 c1 c2 c3 i vO X':=by
 obtain ⟨h1,h2,ys,h3,h4⟩:=h
 exact ⟨(hb.block _ (Array.getElem?_eq_some_iff.1 h1).1).trans h1,(hb.block _ (Array.getElem?_eq_some_iff.1 h2).1).trans h2,ys,owns_later h3 hb,parts_below h4 hb⟩
theorem Acc.add {H i:Nat} {b:Int} {ks:List Pt} {c0 c1 c2 c3 vO:Value} {X w6:World} {g5 c5:Nat} {ys:List Value} {p:Pt} {lv:Value} (hi:i<ks.length) (hp:shiftP b ks[i]=p) (h1:X.heap[H+1+1]?=some (.cells #[c0,c1,c2,c3,vO] 49 (0,0)))
  (h2:X.heap[H+1]?=some (.cells #[.string ⟨#[]⟩,.string ⟨#[]⟩,.int .i64 0,.int .i64 0,.slice none 0 0] 49 (0,0))) (h3:X.ownsRow (H+3) 49 5 vO i ys) (h4:PartsIn X (fun k=>H+3≤k∧vO.ownBlock≠some k) (shiftL b (ks.take i)) ys)
  (hk:KidsIn X (fun k=>H+3≤k∧vO.ownBlock≠some k∧k<X.heap.size) p lv)
  (hown:w6.ownsRow (H+3) 49 5 (.slice (some ⟨g5,0,none⟩) (i+1) c5) (i+1) (ys++five p lv)) (hgrow:X.grownBy w6 vO.ownBlock) (hat:vO.ownBlock=some g5∨g5=X.heap.size) :
  w6.cell? ⟨H+1+1,4,none⟩=some vO∧w6.frozen? ⟨H+1+1,4,none⟩=false∧Acc H b ks c0 c1 c2 c3 (i+1) (.slice (some ⟨g5,0,none⟩) (i+1) c5) (w6.setCell ⟨H+1+1,4,none⟩ (.slice (some ⟨g5,0,none⟩) (i+1) c5))∧Below (H+1) X (w6.setCell ⟨H+1+1,4,none⟩ (.slice (some ⟨g5,0,none⟩) (i+1) c5)):=by
 have hO:∀ k,k<H+3→vO.ownBlock≠some k:=fun k hk e=>by have:=(h3.lt k e).1;omega
 have l1:=(Array.getElem?_eq_some_iff.1 h1).1
 have l2:=(Array.getElem?_eq_some_iff.1 h2).1
 have b1:=(hgrow.block _ l1 (fun e=>hO _ (by omega) e.symm)).trans h1
 have b2:=(hgrow.block _ l2 (fun e=>hO _ (by omega) e.symm)).trans h2
 have hset:∀ k,k≠H+1+1→(w6.setCell ⟨H+1+1,4,none⟩ (.slice (some ⟨g5,0,none⟩) (i+1) c5)).heap[k]?=w6.heap[k]?:=fun k hk=>Below.heap_setCell _ _ _ _ hk
 have hg5:H+3≤g5:=(hown.lt g5 rfl).1
 refine ⟨by simp [World.cell?,b1],by simp [World.frozen?,b1],⟨Go.Joins.block_setCell b1 _,(hset _ (by omega)).trans b2,ys++five p lv,?_,?_⟩,?_⟩
 ·refine ⟨hown.1,?_⟩
  rcases hown.2 with h|⟨g,cap,cur,hv,h5,h6,h7⟩
  ·exact .inl h
  ·exact .inr ⟨g,cap,cur,hv,h5,(hset g (by omega)).trans h6,h7⟩
 ·rw [shiftL_take_succ b hi,hp]
  have keep:∀ k,(H+3≤k∧vO.ownBlock≠some k)→k<X.heap.size→(w6.setCell ⟨H+1+1,4,none⟩ (.slice (some ⟨g5,0,none⟩) (i+1) c5)).heap[k]?=X.heap[k]?:=fun k hk hl=>(hset k (by omega)).trans (hgrow.block k hl (fun e=>hk.2 e.symm))
  have rr:∀ k,(H+3≤k∧vO.ownBlock≠some k)→k<X.heap.size→(H+3≤k∧(Value.slice (some ⟨g5,0,none⟩) (i+1) c5).ownBlock≠some k):=fun k hk hl=>⟨hk.1,fun e=>by
   have e:g5=k:=by simpa [Value.ownBlock] using e
   rcases hat with h|h
   ·exact hk.2 (by rw [← e];exact h)
   ·omega⟩
  have ltL:∀ {l:List Pt} {zs:List Value},PartsIn X (fun k=>H+3≤k∧vO.ownBlock≠some k) l zs→PartsIn X (fun k=>(H+3≤k∧vO.ownBlock≠some k)∧k<X.heap.size) l zs:=fun h=>rows_lt h
  refine PartsIn.snoc (PartsIn.later (fun k hk hl=>keep k hk.1 hl) (fun k hk=>rr k hk.1 hk.2) _ _ (ltL h4)) (KidsIn.later (fun k hk hl=>keep k ⟨hk.1,hk.2.1⟩ hl) (fun k hk=>rr k ⟨hk.1,hk.2.1⟩ hk.2.2) _ _ hk)
 ·exact ⟨hgrow.os,hgrow.tape,hgrow.output,by simpa using hgrow.size,fun k hk=>(hset k (by omega)).trans (hgrow.block k (by omega) (fun e=>hO k (by omega) e.symm))⟩
end Go.Proofs.YtojoahlpgmnbnaaGreatDoor.J
namespace Go.Proofs.YtojoahlpgmnbnaaGreatDoor.Ud
open Go.RowKit
open Go.Lib hiding intOf
open U S Q T J
open Go.Proofs.YtojoahlpgmnbnaaGreatDoor.K (zeroP NnL Nn MTab)
theorem keep_nil (a:Option Addr) (c:Nat) (v':Value) (w:World):Calls Tryz.prog 35 #[.slice a 0 c,v'] w fun e w'=>e=.returned (.tuple #[])∧w=w':=by
 go_enter Tryz.func35,Tryz.ntmps35
 go_wp2_with fail
 go_loopw [9] (fun iv wr=>iv=.int .i64 0∧wr=w) (fun _ _=>0)
 case atStart=>exact ⟨rfl,rfl⟩
 case round =>
  obtain ⟨rfl,rfl⟩:=hrel
  go_wp2_with fail
  exact bodyPost_end (results_none rfl _ _ _) rfl ⟨rfl,rfl⟩
theorem readAfresh_nil (a:Option Addr) (c:Nat) (w:World):Calls Tryz.prog 36 #[.slice a 0 c] w fun e w'=>e=.returned (.tuple #[])∧w=w':=by
 go_enter Tryz.func36,Tryz.ntmps36
 go_wp2_with fail
 go_loopw [6] (fun iv wr=>iv=.int .i64 0∧wr=w) (fun _ _=>0)
 case atStart=>exact ⟨rfl,rfl⟩
 case round =>
  obtain ⟨rfl,rfl⟩:=hrel
  go_wp2_with fail
  exact bodyPost_end (results_none rfl _ _ _) rfl ⟨rfl,rfl⟩
def Seg (g h m:Nat) (v:Value):Prop:=∃ a c,v=.slice a m c∧(m=0∨a=some ⟨g,h*10,none⟩)
theorem keep_seg (w0 w:World) (D OL:List DcP) (h m g cap:Nat) (v v':Value) (hv:Seg g h m v) (hS:St w0.heap.size D h g cap w) (hm:h+m≤D.length) (hlen:D.length≤1000000) (hN:∀ d∈D,NnL (kidsP d.p)) (hO:m=0∨OldIn w0.heap.size w0 OL v') (hmo:m≤OL.length) (holen:OL.length≤1000000)
  (heq:∀ i (hi:i<m),(OL[i]'(by omega)).p=(D[h+i]'(by omega)).p∧(OL[i]'(by omega)).a=(D[h+i]'(by omega)).a∧(OL[i]'(by omega)).r=(D[h+i]'(by omega)).r) (hb:Below w0.heap.size w0 w) :
  Calls Tryz.prog 35 #[v,v'] w fun e w'=>e=.returned (.tuple #[])∧St w0.heap.size D (h+m) g cap w'∧Below w0.heap.size w0 w'∧Oth g w w':=by
 obtain ⟨a,c,rfl,ha⟩:=hv
 rcases Nat.eq_zero_or_pos m with h0|h0
 ·subst h0
  refine (keep_nil a c v' w).mono ?_
  rintro e w' ⟨rfl,rfl⟩
  exact ⟨rfl,hS,hb,Oth.refl g w⟩
 ·obtain rfl:=ha.resolve_left (by omega)
  exact keep_any w0 w D OL h m g cap c v' hS hm hlen hN (hO.resolve_left (by omega)) hmo holen heq hb
theorem read_seg (w0 w:World) (D:List DcP) (h m g cap:Nat) (v:Value) (hv:Seg g h m v) (hS:St w0.heap.size D h g cap w) (hm:h+m≤D.length) (hlen:D.length≤1000000) (hN:∀ d∈D,NnL (kidsP d.p)) (hD:∀ d∈D,declT d.tx=(d.p,d.a,d.r)∧d.tx.size≤600)
  (hT:Tabs w0) (hG:MTab w0) (hb:Below w0.heap.size w0 w) :
  Calls Tryz.prog 36 #[v] w fun e w'=>e=.returned (.tuple #[])∧St w0.heap.size D (h+m) g cap w'∧Below w0.heap.size w0 w'∧Oth g w w':=by
 obtain ⟨a,c,rfl,ha⟩:=hv
 rcases Nat.eq_zero_or_pos m with h0|h0
 ·subst h0
  refine (readAfresh_nil a c w).mono ?_
  rintro e w' ⟨rfl,rfl⟩
  exact ⟨rfl,hS,hb,Oth.refl g w⟩
 ·obtain rfl:=ha.resolve_left (by omega)
  exact readAfresh_any w0 w D h m g cap c hS hm hlen hN hD hT hG hb
theorem sizeL (W:World):(sizeOf (Tryz.prog.elem 56)).run Tryz.prog W=.ok 10 W:=by
 rw [show Tryz.prog.elem 56=52 by kernel_rfl]
 obtain ⟨i0,hi0,_,hz1,_⟩:=info_parts infoD
 rw [run_sizeOf (w:=W) hi0]
 have:Tryz.prog.cellsOf 52=10:=by kernel_rfl
 rw [this]
set_option maxRecDepth 20000 in
theorem cutH (a:Option Addr) (n c i:Nat) (hi:i≤c):∀ W,(Instr.slice 56 (.slice a n c) none (some (.int .i64 i)) none).run Tryz.prog W=.ok (.slice (if c=0 then a else a.map (·.add (0*10))) i c) W:=fun W=>by
 rw [run_slice_h (P:=Tryz.prog) (w:=W) 56 a n c Tryz.underlying56 .i64 i (by omega) (by omega),sizeL]
 simp [Result.andThen,sliced]
set_option maxRecDepth 20000 in
theorem cutLo (a:Option Addr) (n c i:Nat) (hi:i≤n):∀ W,(Instr.slice 56 (.slice a n c) (some (.int .i64 i)) none none).run Tryz.prog W=.ok (.slice (if c=i then a else a.map (·.add (i*10))) (n - i) (c - i)) W:=fun W=>by
 rw [run_slice_l (P:=Tryz.prog) (w:=W) 56 a n c Tryz.underlying56 .i64 i (by omega) (by omega),sizeL]
 simp [Result.andThen,sliced]
set_option maxRecDepth 20000 in
theorem cutLH (a:Option Addr) (n c i j:Nat) (hi:i≤j) (hj:j≤c):∀ W,(Instr.slice 56 (.slice a n c) (some (.int .i64 i)) (some (.int .i64 j)) none).run Tryz.prog W=.ok (.slice (if c=i then a else a.map (·.add (i*10))) (j - i) (c - i)) W:=fun W=>by
 rw [run_slice_lh (P:=Tryz.prog) (w:=W) 56 a n c Tryz.underlying56 .i64 .i64 i j (by omega) (by omega) (by omega),sizeL]
 simp [Result.andThen,sliced]
theorem st_of {W:World} {B n c g:Nat} {D:List DcP} (h:W.ownsRow B 52 10 (.slice (some ⟨g,0,none⟩) n c) n (rowsZ D)) (hn:D.length=n):St B D 0 g c W:=by
 have hcell:=fun j hj=>h.cellAt j hj
 rcases h.2 with ⟨h',_⟩|⟨g',cap',cur,h',hB,hg,hnc,_,hsz,_⟩
 ·simp at h'
 ·simp only [Value.slice.injEq,Option.some.injEq,Addr.mk.injEq,and_true,true_and] at h'
  obtain ⟨rfl,rfl⟩:=h'
  refine ⟨hB,cur,hg,hsz,by omega,fun i _ h0=>absurd h0 (Nat.not_lt_zero _),fun i hi _ q u hq=>?_⟩
  have hq10:=(List.getElem?_eq_some_iff.1 hq).1
  rw [ten_length] at hq10
  rw [← cell_cur hg,hcell _ (by omega),rowsZ_at D i q hi hq10]
  exact hq
theorem dcs_of_st {H:Nat} {D:List DcP} {g cap:Nat} {W:World} (h:St H D D.length g cap W):DcsIn H (fun _=>True) W D (.slice (some ⟨g,0,none⟩) D.length cap):=by
 have hl:=h.lt
 obtain ⟨ge,cur,h1,h2,h3,h4,_⟩:=h
 refine ⟨_,_,rfl,h3,.inr ⟨g,0,rfl,ge,hl,fun i hi=>?_⟩⟩
 obtain ⟨lv,e1,e2⟩:=h4 i hi hi
 exact ⟨lv,fun q u hq=>by rw [Nat.zero_add,cell_cur h1];exact e1 q u hq,e2⟩
theorem old_of {w:World} {l:List DcP} {v:Value} (h:DcsIn 0 (fun _=>True) w l v):OldIn w.heap.size w l v:=by
 obtain ⟨a,c,h1,h2,h3⟩:=h
 refine ⟨a,c,h1,h2,h3.imp id ?_⟩
 rintro ⟨g,off,e1,_,e3,e4⟩
 refine ⟨g,off,e1,e3,fun i hi=>?_⟩
 obtain ⟨lv,k1,k2⟩:=e4 i hi
 exact ⟨lv,k1,KidsIn.later (fun _ _ _=>rfl) (fun k hk=>hk.2) _ _ (kids_lt _ _ k2)⟩
theorem old_drop {H:Nat} {w:World} {l:List DcP} {a:Option Addr} {n c i:Nat} (h:OldIn H w l (.slice a n c)) (hi:i<l.length):OldIn H w (l.drop i) (.slice (if c=i then a else a.map (·.add (i*10))) (n - i) (c - i)):=by
 obtain ⟨a',c',h1,h2,h3⟩:=h
 simp only [Value.slice.injEq] at h1
 obtain ⟨rfl,rfl,rfl⟩:=h1
 obtain ⟨g,off,rfl,e2,e3⟩:=h3.resolve_left (fun h=>by rw [h] at hi;exact Nat.not_lt_zero _ hi)
 rw [if_neg (by omega)]
 refine ⟨_,_,by rw [List.length_drop],by rw [List.length_drop];omega,.inr ⟨g,off+i*10,by simp [Addr.add_lit],e2,fun j hj=>?_⟩⟩
 rw [List.length_drop] at hj
 have:=e3 (i+j) (by omega)
 rw [List.getElem_drop,show off+i*10+j*10=off+(i+j)*10 by omega]
 exact this
def Okd (D:List DcP):Prop:=∀ d∈D,declT d.tx=(d.p,d.a,d.r)∧d.tx.size≤600
theorem okd_decls (s:ByteArray) (hs:s.size≤600):Okd (decls s):=by
 intro d hd
 unfold decls at hd
 obtain ⟨q,_,rfl⟩:=List.mem_map.1 hd
 refine ⟨rfl,?_⟩
 show (s.extract q.f q.e).size≤600
 rw [ByteArray.size_extract]
 omega
theorem okd_nn {D:List DcP} (h:Okd D):∀ d∈D,NnL (kidsP d.p):=fun d hd=>by
 have:=nn_decl d.tx
 rw [(h d hd).1] at this
 exact this
theorem decls_bound (s:ByteArray):(decls s).length≤s.size+1:=by
 have h1:=decls_len s
 have h2:=pieces_len s.toList
 rw [tl_len] at h2
 omega
theorem head_same {D OL:List DcP} (hD:Okd D) (hO:Okd OL) (i:Nat) (hi:i<headN (txs D) (txs OL)) (h1:i<OL.length) (h2:0+i<D.length):OL[i].p=D[0+i].p∧OL[i].a=D[0+i].a∧OL[i].r=D[0+i].r:=by
 have h:=(head_cnt (txs D) (txs OL)).2.1 i hi
 unfold gH txs at h
 simp only [Nat.zero_add] at h2 ⊢
 rw [List.getElem?_map,List.getElem?_map,List.getElem?_eq_getElem h1,List.getElem?_eq_getElem h2,decide_eq_true_iff] at h
 have h3:D[i].tx=OL[i].tx:=by simpa using h
 have h4:=(hD _ (List.getElem_mem h2)).1
 rw [h3,(hO _ (List.getElem_mem h1)).1] at h4
 exact ⟨congrArg Prod.fst h4,congrArg (fun z=>z.2.1) h4,congrArg (fun z=>z.2.2) h4⟩
theorem tail_same {D OL:List DcP} (hD:Okd D) (hO:Okd OL) (i n k:Nat) (hi:i<tailN (txs D) (txs OL)) (hn:n=D.length - tailN (txs D) (txs OL)) (hk:k=OL.length - tailN (txs D) (txs OL)) (h1:i<(OL.drop k).length) (h2:n+i<D.length):(OL.drop k)[i].p=D[n+i].p∧(OL.drop k)[i].a=D[n+i].a∧(OL.drop k)[i].r=D[n+i].r:=by
 have hle:=kept_le (txs D) (txs OL)
 have ht:=(tail_cnt (txs D) (txs OL)).2.1 (tailN (txs D) (txs OL) - 1 - i) (by omega)
 rw [txs_len,txs_len] at hle
 rw [List.length_drop] at h1
 have e1:D.length - 1 - (tailN (txs D) (txs OL) - 1 - i)=n+i:=by omega
 have e2:OL.length - 1 - (tailN (txs D) (txs OL) - 1 - i)=k+i:=by omega
 have h1':k+i<OL.length:=by omega
 unfold gT at ht
 rw [txs_len,txs_len,e1,e2] at ht
 unfold txs at ht
 rw [List.getElem?_map,List.getElem?_map,List.getElem?_eq_getElem h1',List.getElem?_eq_getElem h2,decide_eq_true_iff] at ht
 rw [List.getElem_drop]
 have h3:D[n+i].tx=OL[k+i].tx:=by simpa using ht
 have h4:=(hD _ (List.getElem_mem h2)).1
 rw [h3,(hO _ (List.getElem_mem h1')).1] at h4
 exact ⟨congrArg Prod.fst h4,congrArg (fun z=>z.2.1) h4,congrArg (fun z=>z.2.2) h4⟩
def ptrU (d:Nat):Value:=.pointer (some ⟨d,0,none⟩)
structure Un (B:Nat) (W:World) (d:Nat) (s:ByteArray) (k:Nat):Prop where
 ge:B≤d
 row:∃ v,W.heap[d]?=some (.cells #[v,.string s,.int .i64 k] 58 (0,0))∧DcsIn 0 (fun _=>True) W (decls s) v
theorem Un.later {B:Nat} {W W':World} {d:Nat} {s:ByteArray} {k:Nat} (h:Un B W d s k) (hb:Below W.heap.size W W'):Un B W' d s k:=by
 obtain ⟨ge,v,h1,h2⟩:=h
 exact ⟨ge,v,(hb.block _ (Array.getElem?_eq_some_iff.1 h1).1).trans h1,h2.later hb⟩
theorem cells_three {W:World} {b:Nat} {v0 v1 v2:Value} {t:TypeId} (h:W.heap[b]?=some (.cells #[v0,v1,v2] t (0,0))) :
  (W.cell? ⟨b,0,none⟩=some v0∧W.cell? ⟨b,1,none⟩=some v1∧W.cell? ⟨b,2,none⟩=some v2)∧∀ j,W.frozen? ⟨b,j,none⟩=false :=
 ⟨⟨by simp [World.cell?,h],by simp [World.cell?,h],by simp [World.cell?,h]⟩,fun j=>by simp [World.frozen?,h]⟩
theorem set_third {W:World} {b:Nat} {v0 v1 v2:Value} {t:TypeId} (v:Value) (h:W.heap[b]?=some (.cells #[v0,v1,v2] t (0,0))) :
  ∃ W',W.setCell ⟨b,2,none⟩ v=W'∧W'.heap[b]?=some (.cells #[v0,v1,v] t (0,0))∧(∀ k,k≠b→W'.heap[k]?=W.heap[k]?)∧∀ B,B≤b→Below B W W' :=
 ⟨_,rfl,Go.Joins.block_setCell h v,fun k hk=>Below.heap_setCell _ _ _ _ hk,fun B hB=>⟨rfl,rfl,rfl,by simp,fun k hk=>Below.heap_setCell _ _ _ _ (by show k≠b;omega)⟩⟩
structure Fill (w0:World) (D OL:List DcP) (v v' v1 v2 v3 v4:Value) (hd tl rs n on:Nat):Prop where
 s1:∀ W,(Instr.slice 56 v none (some (.int .i64 hd)) none).run Tryz.prog W=.ok v1 W
 s2:∀ W,(Instr.slice 56 v (some (.int .i64 hd)) (some (.int .i64 rs)) none).run Tryz.prog W=.ok v2 W
 s3:∀ W,(Instr.slice 56 v (some (.int .i64 rs)) none none).run Tryz.prog W=.ok v3 W
 s4:∀ W,(Instr.slice 56 v' (some (.int .i64 ((on - tl:Nat):Int))) none none).run Tryz.prog W=.ok v4 W
 fill:∀ (W:World) (d:Nat),(D=[]∨∃ g c,v=.slice (some ⟨g,0,none⟩) n c∧St w0.heap.size D 0 g c W∧d≠g)→Below w0.heap.size w0 W→d<W.heap.size →
  Calls Tryz.prog 35 #[v1,v'] W fun e W1=>e=.returned (.tuple #[])∧Below w0.heap.size w0 W1∧W1.heap[d]?=W.heap[d]?∧d<W1.heap.size ∧
   Calls Tryz.prog 36 #[v2] W1 fun e W2=>e=.returned (.tuple #[])∧Below w0.heap.size w0 W2∧W2.heap[d]?=W1.heap[d]?∧d<W2.heap.size ∧
    ∀ W2',Below W2.heap.size W2 W2'→Calls Tryz.prog 35 #[v3,v4] W2' fun e W3=>e=.returned (.tuple #[])∧Below w0.heap.size w0 W3∧W3.heap[d]?=W2.heap[d]?∧d<W3.heap.size∧DcsIn w0.heap.size (fun _=>True) W3 D v
theorem fill_any (w0:World) (D OL:List DcP) (a:Option Addr) (c n hd tl rs on:Nat) (v':Value) (hD:Okd D) (hO:Okd OL) (hlen:D.length≤1000000) (holen:OL.length≤1000000) (hT:Tabs w0) (hG:MTab w0) (hv':DcsIn 0 (fun _=>True) w0 OL v')
  (hn:D.length=n) (hon:OL.length=on) (hhd:headN (txs D) (txs OL)=hd) (htl:tailN (txs D) (txs OL)=tl) (hrs:n - tl=rs) (hc:n≤c) (hnil:D=[]→DcsIn w0.heap.size (fun _=>True) w0 [] (.slice a n c)) :
  ∃ v1 v2 v3 v4,Fill w0 D OL (.slice a n c) v' v1 v2 v3 v4 hd tl rs n on:=by
 have hle:=kept_le (txs D) (txs OL)
 rw [txs_len,txs_len,hn,hon,hhd,htl] at hle
 have hold:=old_of hv'
 obtain ⟨oa,oc,rfl⟩:=dcs_form hv'
 obtain ⟨_,hoc,_⟩:=dcs_row hv'
 rw [hon] at hoc
 refine ⟨_,_,_,_,cutH a n c hd (by omega),cutLH a n c hd rs (by omega) (by omega),cutLo a n c rs (by omega),by rw [hon];exact cutLo oa on oc (on - tl) (by omega),?_⟩
 rintro W d hst hb hdW
 rcases hst with h0|⟨g,c2,hv,hS,hdg⟩
 ·have hn0:n=0:=by rw [← hn,h0];rfl
  have e1:hd=0:=by omega
  have e2:rs=0:=by omega
  have hdc:=hnil h0
  subst h0
  subst hn0
  subst e1
  subst e2
  refine (keep_nil _ _ _ W).mono ?_
  rintro e W1 ⟨rfl,rfl⟩
  refine ⟨rfl,hb,rfl,hdW,(readAfresh_nil _ _ W).mono ?_⟩
  rintro e W2 ⟨rfl,rfl⟩
  refine ⟨rfl,hb,rfl,hdW,fun W2' hb2=>(keep_nil _ _ _ W2').mono ?_⟩
  rintro e W3 ⟨rfl,rfl⟩
  exact ⟨rfl,hb.trans (hb2.mono hb.size),hb2.block _ hdW,Nat.lt_of_lt_of_le hdW hb2.size,DcsIn.later (by obtain ⟨a1,a2,a3,a4,_⟩:=hdc;exact ⟨a1,a2,a3,a4,.inl rfl⟩) (W:=w0) (hb.trans (hb2.mono hb.size))⟩
 ·simp only [Value.slice.injEq] at hv
  obtain ⟨rfl,_,rfl⟩:=hv
  have hN:=okd_nn hD
  have sg1:Seg g 0 hd (.slice (if c=0 then some ⟨g,0,none⟩ else (some (⟨g,0,none⟩:Addr)).map (·.add (0*10))) hd c):=⟨_,_,rfl,by
   by_cases h:hd=0
   ·exact .inl h
   ·right;rw [if_neg (by omega)];simp [Addr.add_lit]⟩
  have sg2:Seg g (0+hd) (rs - hd) (.slice (if c=hd then some ⟨g,0,none⟩ else (some (⟨g,0,none⟩:Addr)).map (·.add (hd*10))) (rs - hd) (c - hd)):=⟨_,_,rfl,by
   by_cases h:rs - hd=0
   ·exact .inl h
   ·right;rw [if_neg (by omega),Nat.zero_add];simp [Addr.add_lit]⟩
  have sg3:Seg g (0+hd+(rs - hd)) (n - rs) (.slice (if c=rs then some ⟨g,0,none⟩ else (some (⟨g,0,none⟩:Addr)).map (·.add (rs*10))) (n - rs) (c - rs)):=⟨_,_,rfl,by
   by_cases h:n - rs=0
   ·exact .inl h
   ·right;rw [if_neg (by omega),show 0+hd+(rs - hd)=rs by omega];simp [Addr.add_lit]⟩
  refine (keep_seg w0 W D OL 0 hd g c _ _ sg1 hS (by omega) hlen hN (.inr (by rw [hon] at hold ⊢;exact hold)) (by omega) holen (fun i hi=>head_same hD hO i (by omega) (by omega) (by omega)) hb).mono ?_
  rintro e W1 ⟨rfl,hS1,hb1,ho1⟩
  refine ⟨rfl,hb1,ho1.2 d hdW hdg,Nat.lt_of_lt_of_le hdW ho1.1,(read_seg w0 W1 D (0+hd) (rs - hd) g c _ sg2 hS1 (by omega) hlen hN hD hT hG hb1).mono ?_⟩
  rintro e W2 ⟨rfl,hS2,hb2,ho2⟩
  refine ⟨rfl,hb2,ho2.2 d (Nat.lt_of_lt_of_le hdW ho1.1) hdg,Nat.lt_of_lt_of_le (Nat.lt_of_lt_of_le hdW ho1.1) ho2.1,fun W2' hb3=>?_⟩
  have hd2:d<W2.heap.size:=Nat.lt_of_lt_of_le (Nat.lt_of_lt_of_le hdW ho1.1) ho2.1
  refine (keep_seg w0 W2' D (OL.drop (on - tl)) (0+hd+(rs - hd)) (n - rs) g c _ _ sg3 (hS2.later hb3) (by omega) hlen hN (by
   by_cases h:n - rs=0
   ·exact .inl h
   ·right;rw [hon] at hold;exact old_drop hold (by omega)) (by rw [List.length_drop];omega) (by rw [List.length_drop];omega) (fun i hi=>tail_same hD hO i _ _ (by omega) (by omega) (by omega) (by rw [List.length_drop];omega) (by omega)) (hb2.trans (hb3.mono hb2.size))).mono ?_
  rintro e W3 ⟨rfl,hS3,hb4,ho3⟩
  refine ⟨rfl,hb4,(ho3.2 d (Nat.lt_of_lt_of_le hd2 hb3.size) hdg).trans (hb3.block _ hd2),Nat.lt_of_lt_of_le (Nat.lt_of_lt_of_le hd2 hb3.size) ho3.1,?_⟩
  have hfin:0+hd+(rs - hd)+(n - rs)=D.length:=by omega
  rw [hfin] at hS3
  have:=dcs_of_st hS3
  rw [hn] at this
  exact this
end Go.Proofs.YtojoahlpgmnbnaaGreatDoor.Ud
