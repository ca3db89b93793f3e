/- What the claim needs of the texts VTrees, VRefS. -/
import Derived.Test.YtpbnhnilfpoljaaGreatDoorRows
import Derived.Test.YtpbnhnilfpoljaaGreatDoorRB11
import Derived.ChangeArms
import Derived.ChangeSlices
import Derived.SliceStrings
import Derived.Deep.RegionLaw
import Derived.Deep.AppendLies
import Derived.OwnWalk
import Derived.Laws.Pointers
import Derived.Test.YtpbnhnilfpoljaaGreatDoorRB8
import Derived.Deep.QuietTactic
import Derived.BigQuiet
import Derived.Laws.Small
import Derived.Deep.DeepCutAuto
import Derived.Test.YtpbnhnilfpoljaaGreatDoorRB9
import Derived.Deep.RegionHeld3
import Derived.Deep.DrawnRows
namespace Go.Proofs.YtpbnhnilfpoljaaGreatDoor.V
open Go.Proofs Go.RowKit Go.ChangeShapes Go.WideShapes Go.ChangeAt
open Go.Lib
theorem bulkAll_snoc {H:Type}:∀ (a:List (DataW H)) (d:DataW H),Rows.uptoBulkAll (a++[d])=Rows.uptoBulkAll a+Rows.uptoBulk d
 | [],d=>by simp [Rows.uptoBulkAll]
 | x :: r,d=>by simp only [List.cons_append,Rows.uptoBulkAll,bulkAll_snoc r d];omega
theorem list_of {H:Type} {W:World} {R:Nat→Prop} {g off:Nat} (E:List (DataW H × List MemPlace)):∀ m,m≤E.length→(∀ i (h:i<m) (hE:i<E.length),∃ v lv kv,(∀ j u,(six' v lv kv)[j]?=some u→W.cell? ⟨g,off+i*6+j,none⟩=some u)∧ValIn W R v lv kv∧wt v≤Rows.uptoBulk E[i].1) →
  ∃ l xs,l.length=m∧CellsAt W g off xs∧ListIn W R l xs∧wtL l≤Rows.uptoBulkAll ((E.take m).map (·.1))
 | 0,_,_=>⟨[],[],rfl,fun j u hj=>by simp at hj,rfl,by simp [wtL]⟩
 | m+1,hm,h=>by
  obtain ⟨l,xs,h1,h2,h3,h4⟩:=list_of E m (by omega) (fun i hi hE=>h i (by omega) hE)
  obtain ⟨v,lv,kv,h5,h6,h7⟩:=h m (by omega) (by omega)
  have hlen:=ListIn.length h3
  refine ⟨l++[v],xs++six' v lv kv,by simp [h1],?_,ListIn.snoc h3 h6,?_⟩
  ·intro j u hj
   by_cases hj2:j<xs.length
   ·rw [List.getElem?_append_left hj2] at hj
    exact h2 j u hj
   ·rw [List.getElem?_append_right (by omega)] at hj
    have:=h5 _ u hj
    rw [show off+m*6+(j - xs.length)=off+j by omega] at this
    exact this
  ·rw [wtL_snoc,List.take_succ_eq_append_getElem (by omega),List.map_append,List.map_singleton,bulkAll_snoc]
   omega
theorem strs_bulk {H:Type}:∀ (es:List ByteArray),sumK (es.map fun s=>s.data.toList)≤Rows.uptoBulkAll (strs (H:=H) es)
 | []=>by simp [sumK]
 | x :: r=>by
  have h:=strs_bulk (H:=H) r
  simp only [sumK,strs,List.map_cons,List.sum_cons,Rows.uptoBulkAll,Rows.uptoBulk] at h ⊢
  omega
theorem cells_t26:Tryz.prog.cellsOf 26=6:=by kernel_rfl
theorem cells_sort:Tryz.prog.cellsOf 22=1:=by kernel_rfl
theorem cells_bool:Tryz.prog.cellsOf 4=1:=by kernel_rfl
theorem cells_int:Tryz.prog.cellsOf 3=1:=by kernel_rfl
theorem cells_str:Tryz.prog.cellsOf 9=1:=by kernel_rfl
theorem cells_lst:Tryz.prog.cellsOf 23=1:=by kernel_rfl
theorem cells_keys:Tryz.prog.cellsOf 24=1:=by kernel_rfl
theorem six_list {α:Type} {l:List α} (h:l.length=6):∃ a b c d e f,l=[a,b,c,d,e,f]:=by
 match l,h with
 | [a,b,c,d,e,f],_=>exact ⟨a,b,c,d,e,f,rfl⟩
theorem mk_back (s:ByteArray):(⟨s.data.toList.toArray⟩:ByteArray)=s:=by
 cases s
 simp
theorem tree_of {H:Type} {enc:TypeId × Value→H} {W:World} {held:Bool}:∀ (F fuel:Nat) (cs:List Value) (x:DataW H × List MemPlace),fuel≤F→DataW.trod enc Tryz.prog W 0 (fun _=>true) held fuel 26 cs=some x →
  ∃ v lv kv,cs=six' v lv kv∧ValIn W (fun _=>True) v lv kv∧wt v≤Rows.uptoBulk x.1:=by
 intro F
 induction F with
 | zero =>
  intro fuel cs x hf h
  obtain ⟨xs,n,rfl,_⟩:=DataW.trod_struct Tryz.underlying26 h
  omega
 | succ F ih =>
  intro fuel cs x hf h
  obtain ⟨xs,n,rfl,rfl,hcl,hxl,hfd⟩:=DataW.trod_struct Tryz.underlying26 h
  rw [cells_t26] at hcl
  obtain ⟨c0,c1,c2,c3,c4,c5,rfl⟩:=six_list hcl
  obtain ⟨y0,y1,y2,y3,y4,y5,rfl⟩:=six_list (hxl.trans rfl)
  have f0:=hfd 0 _ rfl
  have f1:=hfd 1 _ rfl
  have f2:=hfd 2 _ rfl
  have f3:=hfd 3 _ rfl
  have f4:=hfd 4 _ rfl
  have f5:=hfd 5 _ rfl
  have g0:DataW.trod enc Tryz.prog W 0 (fun _=>true) held n 22 (([c0,c1,c2,c3,c4,c5].drop 0).take (Tryz.prog.cellsOf 22))=some y0:=f0
  rw [cells_sort] at g0
  replace g0:DataW.trod enc Tryz.prog W 0 (fun _=>true) held n 22 [c0]=some y0:=g0
  have g1:DataW.trod enc Tryz.prog W 0 (fun _=>true) held n 4 (([c0,c1,c2,c3,c4,c5].drop 1).take (Tryz.prog.cellsOf 4))=some y1:=f1
  rw [cells_bool] at g1
  replace g1:DataW.trod enc Tryz.prog W 0 (fun _=>true) held n 4 [c1]=some y1:=g1
  have g2:DataW.trod enc Tryz.prog W 0 (fun _=>true) held n 3 (([c0,c1,c2,c3,c4,c5].drop 2).take (Tryz.prog.cellsOf 3))=some y2:=f2
  rw [cells_int] at g2
  replace g2:DataW.trod enc Tryz.prog W 0 (fun _=>true) held n 3 [c2]=some y2:=g2
  have g3:DataW.trod enc Tryz.prog W 0 (fun _=>true) held n 9 (([c0,c1,c2,c3,c4,c5].drop 3).take (Tryz.prog.cellsOf 9))=some y3:=f3
  rw [cells_str] at g3
  replace g3:DataW.trod enc Tryz.prog W 0 (fun _=>true) held n 9 [c3]=some y3:=g3
  have g4:DataW.trod enc Tryz.prog W 0 (fun _=>true) held n 23 (([c0,c1,c2,c3,c4,c5].drop 4).take (Tryz.prog.cellsOf 23))=some y4:=f4
  rw [cells_lst] at g4
  replace g4:DataW.trod enc Tryz.prog W 0 (fun _=>true) held n 23 [c4]=some y4:=g4
  have g5:DataW.trod enc Tryz.prog W 0 (fun _=>true) held n 24 (([c0,c1,c2,c3,c4,c5].drop 5).take (Tryz.prog.cellsOf 24))=some y5:=f5
  rw [cells_keys] at g5
  replace g5:DataW.trod enc Tryz.prog W 0 (fun _=>true) held n 24 [c5]=some y5:=g5
  obtain ⟨so,h0,e0,_⟩:=DataW.trod_int Tryz.underlying22 g0
  obtain ⟨on,h1,e1⟩:=DataW.trod_bool Tryz.underlying4 g1
  obtain ⟨nn,h2,e2,_⟩:=DataW.trod_int Tryz.underlying3 g2
  obtain ⟨ts,h3,e3,_⟩:=DataW.trod_string Tryz.underlying9 g3
  cases h0;cases h1;cases h2;cases h3
  subst e0;subst e1;subst e2;subst e3
  clear f0 f1 f2 f3 f4 f5 hfd g0 g1 g2 g3 h hcl hxl
  have hkeys:∃ ks,KeysIn W (fun _=>True) ks c5∧sumK ks+1≤Rows.uptoBulk y5.1:=by
   rcases open_strings Tryz.underlying24 Tryz.underlying9 cells_str g5 with ⟨hc,rfl⟩|⟨a,len,cap,ss,hc,_,hl,hm,hz,rfl,hcell,_⟩
   ·cases hc
    exact ⟨[],⟨none,0,rfl,.inl rfl⟩,by simp [sumK,Rows.uptoBulk]⟩
   ·cases hc
    simp only [if_true] at hz
    have hb:=strs_bulk (H:=H) (ss.take len)
    refine ⟨(ss.take len).map fun s=>s.data.toList,⟨some a,cap,by simp [hz,Nat.min_eq_left hl],?_⟩,?_⟩
    ·by_cases h0:len=0
     ·left;subst h0;simp
     ·right
      obtain ⟨g,off,spot⟩:=a
      have hspot:spot=none:=by simpa [Addr.add] using World.cell?_spot (hcell 0 (by omega))
      subst hspot
      refine ⟨g,off,rfl,trivial,fun j u hj=>?_⟩
      have hj2:j<len:=by
       have:=(List.getElem?_eq_some_iff.1 hj).1
       simp at this
       omega
      have hj3:j<ss.length:=by omega
      have hc:=hcell j (by omega)
      rw [Addr.add_lit] at hc
      rw [hc]
      simp [hj2,hj3,strCell] at hj ⊢
      exact hj
    ·simp only [Rows.uptoBulk]
     omega
  have hlist:∃ l,(∃ a cap,c4=.slice a l.length cap∧(l=[]∨∃ g off xs,a=some ⟨g,off,none⟩∧True∧CellsAt W g off xs∧ListIn W (fun _=>True) l xs))∧wtL l+1≤Rows.uptoBulk y4.1:=by
   rcases DataW.trod_slice Tryz.underlying23 g4 with ⟨hc,rfl⟩|⟨a,len,cap,elems,rest,m,hnm,hc,rfl,_,hl,hm,hlen,hel,_,_⟩
   ·cases hc
    exact ⟨[],⟨none,0,rfl,.inl rfl⟩,by simp [wtL,Rows.uptoBulk]⟩
   ·cases hc
    by_cases h0:len=0
    ·refine ⟨[],⟨some a,cap,by simp [h0],.inl rfl⟩,by simp [wtL,Rows.uptoBulk]⟩
    ·obtain ⟨g,off,spot⟩:=a
     have hgo:∀ i (h:i<len) (hE:i<elems.length),∃ ci,W.cells? 0 ((⟨g,off,spot⟩:Addr).add (i*6)) 6=some ci∧DataW.trod enc Tryz.prog W 0 (fun _=>true) held m 26 ci=some elems[i]:=by
      intro i hi hE
      have h1:=hel i hi
      rw [cells_t26,List.getElem?_eq_getElem hE] at h1
      exact Option.bind_eq_some_iff.1 h1
     have hspot:spot=none:=by
      obtain ⟨ci,hc1,_⟩:=hgo 0 (by omega) (by omega)
      obtain ⟨_,hcl,hcc⟩:=World.cells?_some hc1
      have h2:=hcc 0 (by omega)
      rw [List.getElem?_eq_getElem (by omega)] at h2
      simpa [Addr.add] using World.cell?_spot h2
     subst hspot
     obtain ⟨l,xs,h1,h2,h3,h4⟩:=list_of (W:=W) (R:=fun _=>True) (g:=g) (off:=off) elems len (by omega) (fun i hi hE=>by
      obtain ⟨ci,hc1,hc2⟩:=hgo i hi hE
      obtain ⟨v,lv,kv,rfl,hv,hw⟩:=ih m ci elems[i] (by omega) hc2
      obtain ⟨_,hcl,hcc⟩:=World.cells?_some hc1
      refine ⟨v,lv,kv,fun j u hj=>?_,hv,hw⟩
      have hj6:j<6:=by
       have:=(List.getElem?_eq_some_iff.1 hj).1
       rw [six_length] at this
       exact this
      have:=hcc j hj6
      rw [Addr.add_lit,Addr.add_lit,hj] at this
      exact this)
     refine ⟨l,⟨some ⟨g,off,none⟩,cap,by rw [h1],.inr ⟨g,off,xs,rfl,trivial,h2,h3⟩⟩,?_⟩
     rw [List.take_of_length_le (by omega)] at h4
     simp only [Rows.uptoBulk]
     omega
  obtain ⟨ks,hk1,hk2⟩:=hkeys
  obtain ⟨l,hl1,hl2⟩:=hlist
  refine ⟨.mk so on nn ts.data.toList l ks,c4,c5,?_,⟨hl1,hk1⟩,?_⟩
  ·simp only [six',six,strCell,mk_back]
  ·have e:(ks.map fun k=>k.length+1).sum=sumK ks:=rfl
   simp only [wt,e,Rows.uptoBulk,Rows.uptoBulkAll,List.map_cons,List.map_nil] at hk2 hl2 ⊢
   omega
end Go.Proofs.YtpbnhnilfpoljaaGreatDoor.V
namespace Go.Proofs.YtpbnhnilfpoljaaGreatDoor.V
open Go.RowKit
open Go.Lib
structure OfSt (B:Nat) (so:Int) (on:Bool) (n:Int) (t:List UInt8) (bl kv lvo:Value) (vs:List Val) (xs:List Value) (w wr:World):Prop where
 below:Below w.heap.size w wr
 size:w.heap.size+3≤wr.heap.size
 box:wr.heap[w.heap.size]?=some (.cells #[.int .i64 so,.bool on,.int .i64 n,.string ⟨t.toArray⟩,bl,kv] 26 (0,0))
 res:wr.heap[w.heap.size+1]?=some (.cells #[.int .i64 0,.bool false,.int .i64 0,.string ⟨#[]⟩,.slice none 0 0,.slice none 0 0] 36 (0,0))
 val:wr.heap[w.heap.size+2]?=some (.cells #[.int .i64 so,.bool on,.int .i64 n,.string ⟨t.toArray⟩,lvo,kv] 36 (0,0))
 own:wr.ownsRow (w.heap.size+3) 36 6 lvo vs.length xs
 parts:ListIn wr (fun g=>g<B∨(w.heap.size+3≤g∧lvo.ownBlock≠some g)) vs xs
theorem of_step {B gg capg m:Nat} {so n:Int} {on:Bool} {t:List UInt8} {bl kv lvo lv' kv':Value} {vs:List Val} {v:Val} {xs:List Value} {w wr w2 w3:World} {zo:Obj}
  (hst:OfSt B so on n t bl kv lvo vs xs w wr) (hm:vs.length=m) (hB:B≤w.heap.size) (hb2:Below wr.heap.size wr w2) (hv:ValIn w2 (fun g=>g<B∨wr.heap.size≤g) v lv' kv')
  (hgrow:(w2.alloc zo).grownBy w3 lvo.ownBlock)
  (hown3:w3.ownsRow (w.heap.size+3) 36 6 (.slice (some ⟨gg,0,none⟩) (m+1) capg) (m+1) (xs++six' v lv' kv'))
  (hat:lvo.ownBlock=some gg∨gg=w2.heap.size+1) :
  OfSt B so on n t bl kv (.slice (some ⟨gg,0,none⟩) (m+1) capg) (vs++[v]) (xs++six' v lv' kv') w (w3.setCell ⟨w.heap.size+2,4,none⟩ (.slice (some ⟨gg,0,none⟩) (m+1) capg)):=by
 have hrow:∀ k,lvo.ownBlock=some k→w.heap.size+3≤k∧k<wr.heap.size:=fun k hk=>World.ownsRowF.lt (World.ownsRowF_of hst.own) k hk
 have hz2:=hb2.size
 have hz0:=hst.size
 have hgB:w.heap.size+3≤gg:=by
  rcases hat with h|h
  ·exact (hrow gg h).1
  ·omega
 have hne2:gg≠w.heap.size+2:=by omega
 have hggw:∀ k,k<w2.heap.size→lvo.ownBlock≠some k→k≠gg:=fun k hk hne h=>by
  subst h;rcases hat with h|h
  ·exact hne h
  ·omega
 have far3:∀ k,k<w2.heap.size→lvo.ownBlock≠some k→w3.heap[k]?=w2.heap[k]?:=fun k hk hne=>by
  rw [hgrow.block k (by simp;omega) (fun h=>hne h.symm)]
  exact Below.heap_alloc w2 zo k (by omega)
 have far2:∀ k,k<w2.heap.size→lvo.ownBlock≠some k→k≠w.heap.size+2→(w3.setCell ⟨w.heap.size+2,4,none⟩ (.slice (some ⟨gg,0,none⟩) (m+1) capg)).heap[k]?=w2.heap[k]?:=fun k hk hne hkb=>by
  rw [Below.heap_setCell _ _ _ _ hkb]
  exact far3 k hk hne
 have hlow:∀ k,k<w.heap.size+3→lvo.ownBlock≠some k:=fun k hk h=>by have:=hrow k h;omega
 have hs3:=hgrow.size
 simp only [World.size_alloc] at hs3
 refine ⟨?_,?_,?_,?_,?_,?_,?_⟩
 ·refine ⟨hgrow.os.trans (hb2.os.trans hst.below.os),hgrow.tape.trans (hb2.tape.trans hst.below.tape),hgrow.output.trans (hb2.output.trans hst.below.output),?_,fun k hk=>?_⟩
  ·rw [sc_size];omega
  ·exact (far2 k (by omega) (hlow k (by omega)) (by omega)).trans ((hb2.block k (by omega)).trans (hst.below.block k hk))
 ·rw [sc_size];omega
 ·exact (far2 _ (by omega) (hlow _ (by omega)) (by omega)).trans ((hb2.block _ (by omega)).trans hst.box)
 ·exact (far2 _ (by omega) (hlow _ (by omega)) (by omega)).trans ((hb2.block _ (by omega)).trans hst.res)
 ·exact Go.Joins.block_setCell (cs:=#[.int .i64 so,.bool on,.int .i64 n,.string ⟨t.toArray⟩,lvo,kv]) (i:=4) ((far3 _ (by omega) (hlow _ (by omega))).trans ((hb2.block _ (by omega)).trans hst.val)) _
 ·rw [List.length_append,List.length_singleton,hm]
  refine ownsRow_same hown3 fun g hg=>?_
  have hg:gg=g:=by simpa [Value.ownBlock] using hg
  have hg2:g≠w.heap.size+2:=by omega
  rw [Below.heap_setCell _ _ _ _ hg2]
 ·refine ListIn.snoc ?_ ?_
  ·refine ListIn.later (R:=fun g=>(g<B∨(w.heap.size+3≤g∧lvo.ownBlock≠some g))∧g<wr.heap.size) (fun g hg hlt=>?_) (fun g hg=>?_) vs xs (ListIn.bound vs xs hst.parts)
   ·have hne:lvo.ownBlock≠some g:=by
     rcases hg.1 with h|h
     ·exact hlow g (by omega)
     ·exact h.2
    have:g≠w.heap.size+2:=by
     rcases hg.1 with h|h
     ·omega
     ·omega
    exact (far2 g (by omega) hne this).trans (hb2.block g hlt)
   ·rcases hg.1 with h|h
    ·exact .inl h
    ·refine .inr ⟨h.1,fun h2=>?_⟩
     have h2:gg=g:=by simpa [Value.ownBlock] using h2
     exact hggw g (by omega) h.2 h2.symm
  ·refine ValIn.later (R:=fun g=>(g<B∨wr.heap.size≤g)∧g<w2.heap.size) (fun g hg hlt=>?_) (fun g hg=>?_) _ _ _ (ValIn.bound _ _ _ hv)
   ·have hne:lvo.ownBlock≠some g:=fun h=>by
     have:=hrow g h
     rcases hg.1 with h|h <;> omega
    exact far2 g hlt hne (by rcases hg.1 with h|h <;> omega)
   ·rcases hg.1 with h|h
    ·exact .inl h
    ·refine .inr ⟨by omega,fun h2=>?_⟩
     have h2:gg=g:=by simpa [Value.ownBlock] using h2
     exact hggw g hg.2 (fun h3=>by have:=hrow g h3;omega) h2.symm
theorem of_end {B:Nat} {so n:Int} {on:Bool} {t:List UInt8} {bl kv lvo:Value} {vs:List Val} {ks:List (List UInt8)} {xs:List Value} {w wr:World}
  (hst:OfSt B so on n t bl kv lvo vs xs w wr) (hk:KeysIn w (fun g=>g<B) ks kv):ValIn wr (fun g=>g<B∨w.heap.size+3≤g) (.mk so on n t vs ks) lvo kv:=by
 refine ⟨?_,hk.later (fun g hg hlt=>hst.below.block g hlt) (fun _ h=>.inl h)⟩
 rcases hst.own.2 with ⟨h1,h2⟩|⟨g,cap,cur,h1,hg,hgg,hle,hcap,hsz,htake⟩
 ·exact ⟨none,0,by rw [h1,h2],.inl (List.eq_nil_of_length_eq_zero h2)⟩
 ·refine ⟨some ⟨g,0,none⟩,cap,h1,.inr ⟨g,0,xs,rfl,.inr hg,fun j u hj=>?_,ListIn.later (fun _ _ _=>rfl) (fun g hg=>hg.imp id (·.1)) _ _ hst.parts⟩⟩
  rw [Nat.zero_add]
  unfold World.cell?
  rw [hgg]
  rw [← htake,List.getElem?_take] at hj
  split at hj
  ·simpa using hj
  ·cases hj
theorem of_start (B:Nat) (so:Int) (on:Bool) (n:Int) (t:List UInt8) (bl kv:Value) (w:World) :
  OfSt B so on n t bl kv (.slice none 0 0) [] [] w (((w.alloc (.cells #[.int .i64 so,.bool on,.int .i64 n,.string ⟨t.toArray⟩,bl,kv] 26)).alloc (.cells #[.int .i64 0,.bool false,.int .i64 0,.string ⟨#[]⟩,.slice none 0 0,.slice none 0 0] 36)).alloc (.cells #[.int .i64 so,.bool on,.int .i64 n,.string ⟨t.toArray⟩,.slice none 0 0,kv] 36)):=by
 obtain ⟨h1,h2,h3,h4⟩:=two w (.cells #[.int .i64 so,.bool on,.int .i64 n,.string ⟨t.toArray⟩,bl,kv] 26) (.cells #[.int .i64 0,.bool false,.int .i64 0,.string ⟨#[]⟩,.slice none 0 0,.slice none 0 0] 36)
 generalize (w.alloc (.cells #[.int .i64 so,.bool on,.int .i64 n,.string ⟨t.toArray⟩,bl,kv] 26)).alloc (.cells #[.int .i64 0,.bool false,.int .i64 0,.string ⟨#[]⟩,.slice none 0 0,.slice none 0 0] 36)=W at *
 have h5:=heap_alloc_new W (.cells #[.int .i64 so,.bool on,.int .i64 n,.string ⟨t.toArray⟩,.slice none 0 0,kv] 36)
 have hb:Below W.heap.size W (W.alloc (.cells #[.int .i64 so,.bool on,.int .i64 n,.string ⟨t.toArray⟩,.slice none 0 0,kv] 36)):=(Below.refl _ _).alloc (Nat.le_refl _) _
 rw [h4] at h5
 exact ⟨h3.trans (hb.mono (by omega)),by simp;omega,(hb.block _ (by omega)).trans h1,(hb.block _ (by omega)).trans h2,h5,⟨by simp,.inl ⟨rfl,rfl⟩⟩,rfl⟩
theorem six_put' {W:World} {b:Nat} {t:TypeId} {y0 y1 y2 y3 y4 y5:Value} (h:W.heap[b]?=some (.cells #[y0,y1,y2,y3,y4,y5] t (0,0))) (x0 x1 x2 x3 x4 x5:Value) :
  ((((((W.setCell ⟨b,0,none⟩ x0).setCell ⟨b,1,none⟩ x1).setCell ⟨b,2,none⟩ x2).setCell ⟨b,3,none⟩ x3).setCell ⟨b,4,none⟩ x4).setCell ⟨b,5,none⟩ x5).heap[b]?=some (.cells #[x0,x1,x2,x3,x4,x5] t (0,0)) ∧
  ∀ k,k≠b→((((((W.setCell ⟨b,0,none⟩ x0).setCell ⟨b,1,none⟩ x1).setCell ⟨b,2,none⟩ x2).setCell ⟨b,3,none⟩ x3).setCell ⟨b,4,none⟩ x4).setCell ⟨b,5,none⟩ x5).heap[k]?=W.heap[k]?:=by
 constructor
 ·have h0:=Go.Joins.block_setCell h (i:=0) x0
  have h1:=Go.Joins.block_setCell h0 (i:=1) x1
  have h2:=Go.Joins.block_setCell h1 (i:=2) x2
  have h3:=Go.Joins.block_setCell h2 (i:=3) x3
  have h4:=Go.Joins.block_setCell h3 (i:=4) x4
  exact Go.Joins.block_setCell h4 (i:=5) x5
 ·intro k hk
  rw [Below.heap_setCell _ _ _ _ hk,Below.heap_setCell _ _ _ _ hk,Below.heap_setCell _ _ _ _ hk,Below.heap_setCell _ _ _ _ hk,Below.heap_setCell _ _ _ _ hk,Below.heap_setCell _ _ _ _ hk]
def OfC (v:Val):Prop:=∀ (lv kv:Value) (B:Nat) (w:World),ValIn w (fun g=>g<B) v lv kv→B≤w.heap.size→wt v≤1099511627776 →
 Calls Tryz.prog 20 #[arg v lv kv] w fun e w'=>Below w.heap.size w w'∧∃ lv',e=.returned (arg v lv' kv)∧ValIn w' (fun g=>g<B∨w.heap.size≤g) v lv' kv
set_option maxHeartbeats 8000000 in
set_option maxRecDepth 100000 in
theorem of_v:∀ v,OfC v:=Val.ind fun so on n t l ks IH lv kv B w hv hB hw=>by
 obtain ⟨i0,hi0,hz0,hz1,hz2⟩:=info_parts infoV
 have hv':=hv
 obtain ⟨⟨a1,c1,rfl,hl⟩,⟨a2,c2,rfl,hk⟩⟩:=hv'
 have HV:=Lib.hid hv
 have HL:=Lib.hid hl
 have HIH:=Lib.hid IH
 have hw2:=hw
 simp only [wt] at hw2
 have hw3:wtL l≤1099511627776:=by omega
 have HWM:=Lib.hid (fun v (h:v∈l)=>Nat.le_trans (wtL_mem h) hw3)
 have hlb:l.length≤1099511627776:=Nat.le_trans (wtL_length l) hw3
 obtain ⟨ln,hln⟩:∃ k,l.length=k:=⟨_,rfl⟩
 obtain ⟨kn,hkn⟩:∃ k,ks.length=k:=⟨_,rfl⟩
 have HLN:=Lib.hid hln
 have HKN:=Lib.hid hkn
 simp only [arg,six',six,strCell]
 rw [hln,hkn]
 rw [hln] at hlb
 clear hv hl hk IH hw hw2 hw3 hln hkn
 go_enter Tryz.func20,Tryz.ntmps20
 go_wp2_with fail
 obtain ⟨w1,hw1⟩:∃ w1,((w.alloc (.cells #[.int .i64 so,.bool on,.int .i64 n,.string ⟨t.toArray⟩,.slice a1 ln c1,.slice a2 kn c2] 26)).alloc (.cells #[.int .i64 0,.bool false,.int .i64 0,.string ⟨#[]⟩,.slice none 0 0,.slice none 0 0] 36)).alloc (.cells #[.int .i64 so,.bool on,.int .i64 n,.string ⟨t.toArray⟩,.slice none 0 0,.slice a2 kn c2] 36)=w1:=⟨_,rfl⟩
 rw [hw1]
 have HST:Hid (OfSt B so on n t (.slice a1 ln c1) (.slice a2 kn c2) (.slice none 0 0) [] [] w w1):=Lib.hid (by
  rw [← hw1]
  exact of_start B so on n t _ _ w)
 clear hw1
 go_loopw [4] (fun iv wr=>∃ (i:Nat) (ao:Option Addr) (cap:Nat) (xs:List Value),iv=.int .i64 i∧i≤ln∧Hid (OfSt B so on n t (.slice a1 ln c1) (.slice a2 kn c2) (.slice ao i cap) (l.take i) xs w wr)) (fun iv _=>ln - (Go.RowKit.intOf iv).toNat)
 case atStart=>exact ⟨0,none,0,[],rfl,by omega,HST⟩
 case round =>
  obtain ⟨i,ao,cap,xs,rfl,hi,HI⟩:=hrel
  obtain ⟨⟨k0,k1,k2,k3,k4,k5⟩,kf⟩:=cells_six HI.out.box
  by_cases hlt:i<ln
  ·have hll:i<l.length:=by rw [HLN.out];exact hlt
   obtain ⟨g,off,xs0,rfl,hg,hc,hL⟩:=HL.out.resolve_left (fun h=>by rw [h] at hll;exact Nat.not_lt_zero _ hll)
   have hsm:Same (fun g=>g<B) w wr:=fun b _ hb=>HI.out.below.block b hb
   obtain ⟨so',on',n',t',l',ks',a1',c1',a2',c2',he,hv',j0,j1,j2,j3,j4,j5⟩:=part_at i (ListIn.later hsm (fun _ h=>h) l xs0 hL) (hc.later hg hsm) hll
   have hzr:=HI.out.size
   have cP:∀ W',Below wr.heap.size wr W'→Calls Tryz.prog 20 #[arg l[i] (.slice a1' l'.length c1') (.slice a2' ks'.length c2')] W' fun e w'=>Below wr.heap.size wr w'∧∃ lv',e=.returned (arg l[i] lv' (.slice a2' ks'.length c2'))∧ValIn w' (fun g=>g<B∨wr.heap.size≤g) l[i] lv' (.slice a2' ks'.length c2'):=fun W' hb'=>by
    refine ((HIH.out l[i] (List.getElem_mem hll)) (.slice a1' l'.length c1') (.slice a2' ks'.length c2') B W' (by rw [he];exact ValIn.later (fun b _ hb=>hb'.block b hb) (fun _ h=>h) _ _ _ hv') (by have:=hb'.size;omega) (HWM.out _ (List.getElem_mem hll))).mono ?_
    rintro e w' ⟨h1,lv',h2,h3⟩
    exact ⟨hb'.trans (h1.mono hb'.size),lv',h2,h3.later (fun _ _ _=>rfl) (fun g hg=>hg.imp id (fun h=>Nat.le_trans hb'.size h)) _ _ _⟩
   have htk:l.take (i+1)=l.take i++[l[i]]:=List.take_succ_eq_append_getElem hll
   have htl:(l.take i).length=i:=by simp;omega
   rw [he] at cP htk
   have hcP:∀ W',Below wr.heap.size wr W'→Calls Tryz.prog 20 #[.agg #[.int .i64 so',.bool on',.int .i64 n',.string ⟨t'.toArray⟩,.slice a1' l'.length c1',.slice a2' ks'.length c2']] W' fun e w2=>∃ a3 c3,e=.returned (.agg #[.int .i64 so',.bool on',.int .i64 n',.string ⟨t'.toArray⟩,.slice a3 l'.length c3,.slice a2' ks'.length c2']) ∧
     Hid (Below wr.heap.size wr w2)∧Hid (ValIn w2 (fun g=>g<B∨wr.heap.size≤g) (.mk so' on' n' t' l' ks') (.slice a3 l'.length c3) (.slice a2' ks'.length c2')) ∧
     w2.cell? ⟨w.heap.size,4,none⟩=some (.slice (some ⟨g,off,none⟩) ln c1)∧w2.cell? ⟨w.heap.size+2,4,none⟩=some (.slice ao i cap)∧(∀ j,w2.frozen? ⟨w.heap.size+2,j,none⟩=false)∧Hid (w2.ownsRow (w.heap.size+3) 36 6 (.slice ao i cap) i xs):=fun W' hb'=>by
    refine (cP W' hb').mono ?_
    rintro e w' ⟨h1,lv',rfl,h3⟩
    have h4:=h3
    obtain ⟨⟨a3,c3,rfl,_⟩,_⟩:=h4
    have hbx:=cells_six ((h1.block _ (by omega)).trans HI.out.box)
    have hbv:=cells_six ((h1.block _ (by omega)).trans HI.out.val)
    have hown:=HI.out.own
    rw [htl] at hown
    exact ⟨a3,c3,rfl,Lib.hid h1,Lib.hid h3,hbx.1.2.2.2.2.1,hbv.1.2.2.2.2.1,hbv.2,Lib.hid (ownsRow_same hown fun g hg=>h1.block g (row_lt hown g hg).2)⟩
   obtain ⟨⟨q0,q1,q2,q3,q4,q5⟩,qf⟩:=cells_six HI.out.val
   have hbg:some (w.heap.size+2)≠(Value.slice ao i cap).ownBlock:=fun h=>by
    have:=row_lt HI.out.own _ h.symm
    omega
   have HTK:=Lib.hid htk
   have HTL:=Lib.hid htl
   have hHz:w.heap.size+3≤wr.heap.size:=hzr
   clear htk htl cP he hv' hsm hL hc
   go_wp2_with fail
   go_region_law (first
    | (refine step_append_lies _ (by rfl) _ _ _ (by rfl) (w.heap.size+3) 36 i0 _ 6 88 Tryz.underlying34 hi0 hz0 hz1 hz2 rfl (by omega) (.slice ao i cap) i xs (by rfl) (HO2.out.alloc _) ⟨w2.heap.size,0,none⟩ 1 1 [.int .i64 so',.bool on',.int .i64 n',.string ⟨t'.toArray⟩,.slice a3 l'.length c3,.slice a2' ks'.length c2'] (by rfl) (by rfl) (World.news_of_block (cs:=#[.int .i64 so',.bool on',.int .i64 n',.string ⟨t'.toArray⟩,.slice a3 l'.length c3,.slice a2' ks'.length c2']) (t:=36) (fr:=(0,0)) (heap_alloc_new w2 _)) (oneCell_six so' n' on' t' a3 a2' l'.length c3 ks'.length c2') (by omega) (by unfold maxLen;omega) (by omega) (by simp;omega) (w2.heap.size+1) (by simp) ?_;intro gg capg w3 hown3 hgrow hat hlt3;have kb3:=(hgrow.cell_far ⟨w.heap.size+2,4,none⟩ (by simp;omega) hbg).trans ((World.cell?_alloc_past _ _ _ hbt2).trans q4');have fb3:=(hgrow.frozen_far ⟨w.heap.size+2,4,none⟩ (by simp;omega) hbg).trans ((World.frozen?_alloc_past _ _ _ hbt2).trans (qf' 4)))
    | (go_simp;refine (hcP _ (by exact ⟨rfl,rfl,rfl,Nat.le_refl _,fun _ _=>rfl⟩)).mono ?_;rintro e w2 ⟨a3,c3,rfl,HB2,HV2,k4',q4',qf',HO2⟩;have hbt2:w.heap.size+2<w2.heap.size:=by have:=HB2.out.size;omega))
   all_goals
    have hfin:=of_step HI.out HTL.out hB HB2.out HV2.out hgrow hown3 hat
    have HFIN:=Lib.hid hfin
    clear hfin hown3 hgrow hat kb3 fb3 k4' q4' qf' k0 k1 k2 k3 k4 k5 kf j0 j1 j2 j3 j4 j5 q0 q1 q2 q3 q4 q5 qf hcP
    go_wp2_with fail
    go_roundw
    case rel=>exact ⟨i+1,some ⟨gg,0,none⟩,capg,_,by go_num,by omega,Lib.hid (by rw [HTK.out];exact HFIN.out)⟩
    case measure=>simp [Go.RowKit.intOf];omega
  ·have hil:i=ln:=by omega
   have htk:l.take i=l:=List.take_of_length_le (by rw [HLN.out];omega)
   have hst:=HI.out
   rw [htk,hil] at hst
   have hv:=HV.out
   obtain ⟨_,hkk⟩:=hv
   rw [HKN.out] at hkk
   have HEND:=Lib.hid (of_end hst hkk)
   have HST2:=Lib.hid hst
   obtain ⟨⟨q0,q1,q2,q3,q4,q5⟩,qf⟩:=cells_six hst.val
   obtain ⟨⟨r0,r1,r2,r3,r4,r5⟩,rf⟩:=cells_six hst.res
   obtain ⟨hp1,hp2⟩:=six_put' hst.res (.int .i64 so) (.bool on) (.int .i64 n) (.string ⟨t.toArray⟩) (.slice ao ln cap) (.slice a2 kn c2)
   have hmb:=(mut6 (d:=w.heap.size) (w.heap.size+1) (.int .i64 so) (.bool on) (.int .i64 n) (.string ⟨t.toArray⟩) (.slice ao ln cap) (.slice a2 kn c2) (Mut.of_below (d:=w.heap.size) hst.below) (by omega)).below (Nat.le_refl _)
   have hsv:∀ g,(g<B∨w.heap.size+3≤g)→g<wr.heap.size→((((((wr.setCell ⟨w.heap.size+1,0,none⟩ (.int .i64 so)).setCell ⟨w.heap.size+1,1,none⟩ (.bool on)).setCell ⟨w.heap.size+1,2,none⟩ (.int .i64 n)).setCell ⟨w.heap.size+1,3,none⟩ (.string ⟨t.toArray⟩)).setCell ⟨w.heap.size+1,4,none⟩ (.slice ao ln cap)).setCell ⟨w.heap.size+1,5,none⟩ (.slice a2 kn c2)).heap[g]?=wr.heap[g]?:=fun g hg _=>hp2 g (by omega)
   have HP1:=Lib.hid hp1
   have HMB:=Lib.hid hmb
   have HVE:=Lib.hid (ValIn.later (R':=fun g=>g<B∨w.heap.size≤g) hsv (fun g hg=>hg.imp id (fun h=>by omega)) _ _ _ HEND.out)
   clear hst hkk htk HI hp1 hp2 hmb hsv HEND
   go_wp2_with fail
   (try simp only [Exit.inBlock,Exit.then])
   refine bodyPost_ret (v:=.agg #[.int .i64 so,.bool on,.int .i64 n,.string ⟨t.toArray⟩,.slice ao ln cap,.slice a2 kn c2]) (results_cell_row rfl _ _ (w.heap.size+1) 36 #[.int .i64 so,.bool on,.int .i64 n,.string ⟨t.toArray⟩,.slice ao ln cap,.slice a2 kn c2] (0,0) _ (by rfl) HP1.out Tryz.underlying36 rfl (by kernel_rfl)) rfl ⟨HMB.out,.slice ao ln cap,rfl,HVE.out⟩
end Go.Proofs.YtpbnhnilfpoljaaGreatDoor.V
namespace Go.Proofs.YtpbnhnilfpoljaaGreatDoor.V
open Go.Lib
def getP:Val→List (List UInt8)→Option Val
 | v,[]=>some v
 | .mk so _ _ _ l ks,k :: p =>
  if so=5 then
   if ks.idxOf k<l.length∧ks.idxOf k<ks.length then
    match l[ks.idxOf k]? with
    | some u=>getP u p
    | none=>none
   else none
  else none
end Go.Proofs.YtpbnhnilfpoljaaGreatDoor.V
namespace Go.Proofs.YtpbnhnilfpoljaaGreatDoor.V
open Go.RowKit
open Go.Lib
theorem texts_of {W:World} {R:Nat→Prop} {ks:List (List UInt8)} {a:Option Addr} {c:Nat} (h:KeysIn W R ks (.slice a ks.length c)) :
  ks=[]∨∃ g off,a=some ⟨g,off,none⟩∧∀ i (hi:i<ks.length),W.cell? ⟨g,off+i,none⟩=some (.string ⟨(ks[i]).toArray⟩):=by
 obtain ⟨a',c',h1,h2⟩:=h
 cases h1
 rcases h2 with h2|⟨g,off,h3,_,hc⟩
 ·exact .inl h2
 ·exact .inr ⟨g,off,h3,fun i hi=>hc i _ (by simp [hi,strCell])⟩
theorem below_draws (w:World) (k:Nat) (w':World) (h:w'=w.drewN k):Below w.heap.size w w':=by
 subst h
 exact ⟨rfl,rfl,rfl,Nat.le_refl _,fun _ _=>rfl⟩
set_option maxHeartbeats 2000000 in
theorem strings_any (l l':List (List UInt8)) (a a':Option Addr) (c c':Nat) (R R':Nat→Prop) (w:World) (hk:KeysIn w R l (.slice a l.length c)) (hk':KeysIn w R' l' (.slice a' l'.length c')) (hn:l.length≤1099511627776) :
  Calls Tryz.prog 37 #[.slice a l.length c,.slice a' l'.length c'] w fun e w'=>e=.returned (.bool (decide (l=l')))∧Below w.heap.size w w':=by
 by_cases hlen:l.length=l'.length
 ·obtain ⟨F,hF⟩:∃ F,decide (l=l')=F:=⟨_,rfl⟩
  have HF:=Lib.hid (show decide (l.drop 0=l'.drop 0)=F from hF)
  have HL:=Lib.hid (texts_of hk)
  have HL':=Lib.hid (texts_of hk')
  rw [hF,← hlen]
  have HLEN:=Lib.hid hlen
  clear hF hlen hk hk'
  go_enter Tryz.func37,Tryz.ntmps37
  go_wp2_with fail
  go_loopw [5] (fun iv wr=>∃ i:Nat,iv=.int .i64 i∧i≤l.length∧Hid (decide (l.drop i=l'.drop i)=F)∧∃ k,wr=w.drewN k) (fun iv _=>l.length - (Go.RowKit.intOf iv).toNat)
  case atStart=>exact ⟨0,rfl,by omega,HF,0,rfl⟩
  case round =>
   obtain ⟨i,rfl,hi,HI,k,rfl⟩:=hrel
   by_cases hlt:i<l.length
   ·have hlt':i<l'.length:=by rw [← HLEN.out];exact hlt
    have hI:=HI.out
    rw [List.drop_eq_getElem_cons hlt,List.drop_eq_getElem_cons hlt'] at hI
    obtain ⟨g,off,rfl,hc⟩:=HL.out.resolve_left (fun h=>by rw [h] at hlt;exact Nat.not_lt_zero _ hlt)
    obtain ⟨g',off',rfl,hc'⟩:=HL'.out.resolve_left (fun h=>by rw [h] at hlt';exact Nat.not_lt_zero _ hlt')
    have hci:=hc i hlt
    have hci':=hc' i hlt'
    have hdc:∀ (x y:List UInt8) (r s:List (List UInt8)),decide (x :: r=y :: s)=(decide (x=y)&&decide (r=s)):=by
     intro x y r s
     by_cases h1:x=y <;> by_cases h2:r=s <;> simp [h1,h2]
    rw [hdc] at hI
    have HI1:=Lib.hid hI
    clear hc hc' hdc hI
    by_cases hx:l[i]=l'[i]
    ·have HI2:=Lib.hid (show decide (l.drop (i+1)=l'.drop (i+1))=F by rw [← HI1.out,decide_eq_true hx,Bool.true_and])
     rw [← hx] at hci'
     clear hx HI1
     generalize l[i]=x at hci hci'
     go_wp2_with fail
     go_quiet (fail)
     go_wp2_with fail
     go_roundw
     case rel=>exact ⟨i+1,by go_num,by omega,HI2,k+nq,by simp⟩
     case measure=>simp [Go.RowKit.intOf];omega
    ·have hF0:F=false:=by rw [← HI1.out,decide_eq_false hx,Bool.false_and]
     subst hF0
     clear HI1
     generalize l[i]=x at hci hx
     generalize l'[i]=y at hci' hx
     have hx2:(x==y)=false:=beq_eq_false_iff_ne.2 hx
     go_wp2_with fail
     go_quiet (fail)
     go_wp2_with fail
     go_ret
     exact ⟨rfl,show Below w.heap.size w ((w.drewN k).drewN nq) from ⟨rfl,rfl,rfl,Nat.le_refl _,fun _ _=>rfl⟩⟩
   ·have hI:=HI.out
    rw [List.drop_eq_nil_of_le (by omega),List.drop_eq_nil_of_le (by have:=HLEN.out;omega)] at hI
    obtain rfl:true=F:=by rw [← hI];simp
    clear hI
    go_wp2_with fail
    go_ret
    exact ⟨rfl,below_draws w k _ rfl⟩
 ·have hne:decide (l=l')=false:=decide_eq_false (fun h=>hlen (by rw [h]))
  rw [hne]
  clear hk hk' hne
  go_enter Tryz.func37,Tryz.ntmps37
  go_wp2_with fail
  go_ret
  exact ⟨rfl,Below.refl _ _⟩
end Go.Proofs.YtpbnhnilfpoljaaGreatDoor.V
namespace Go.Proofs.YtpbnhnilfpoljaaGreatDoor.V
open Go.RowKit
open Go.Lib
attribute [local go_sem ↓] Go.wp_at_zero Go.wp_at_succ
def RSameC (v:Val):Prop:=∀ (v':Val) (lv kv lv' kv':Value) (R R':Nat→Prop) (w:World),ValIn w R v lv kv→ValIn w R' v' lv' kv'→wt v≤1099511627776→wt v'≤1099511627776 →
 Calls Tryz.prog 11 #[arg v lv kv,arg v' lv' kv'] w fun e w'=>e=.returned (.bool (sameP v v'))∧Below w.heap.size w w'
theorem sameP_false {so so':Int} {on on':Bool} {n n':Int} {t t':List UInt8} {l l':List Val} {ks ks':List (List UInt8)} (h:¬ (ks=ks'∧so=so'∧on=on'∧n=n'∧t=t'∧l.length=l'.length)) :
  sameP (.mk so on n t l ks) (.mk so' on' n' t' l' ks')=false:=by
 rw [Bool.eq_false_iff]
 intro h2
 have:=(sameP_iff _ _).1 h2
 injection this with h1 h2 h3 h4 h5 h6
 exact h ⟨h6,h1,h2,h3,h4,by rw [h5]⟩
set_option maxRecDepth 20000 in
set_option maxHeartbeats 8000000 in
theorem rsame_v:∀ v,RSameC v:=Val.ind fun so on n t l ks IH=>fun
 | .mk so' on' n' t' l' ks',lv,kv,lv',kv',R,R',w,hv,hv',hw,hw'=>by
  have hW:∀ {X:World},Below w.heap.size w X→ValIn X R (.mk so on n t l ks) lv kv∧ValIn X R' (.mk so' on' n' t' l' ks') lv' kv':=fun hb=>⟨hv.later (fun b _ hlt=>hb.block b hlt) (fun _ h=>h) _ _ _,hv'.later (fun b _ hlt=>hb.block b hlt) (fun _ h=>h) _ _ _⟩
  obtain ⟨⟨a1,c1,rfl,hl⟩,⟨a2,c2,rfl,_⟩⟩:=hv
  obtain ⟨⟨a1',c1',rfl,hl'⟩,⟨a2',c2',rfl,_⟩⟩:=hv'
  have hw2:=hw
  have hw2':=hw'
  simp only [wt] at hw2 hw2'
  have hwl:wtL l≤1099511627776:=by omega
  have hwl':wtL l'≤1099511627776:=by omega
  have hkl:=wt_keys ks
  have hlb:l.length≤1099511627776:=Nat.le_trans (wtL_length l) hwl
  have hlb':l'.length≤1099511627776:=Nat.le_trans (wtL_length l') hwl'
  have cE:=fun X (hb:Below w.heap.size w X)=>strings_any ks ks' a2 a2' c2 c2' R R' X (hW hb).1.2 (hW hb).2.2 (by omega)
  obtain ⟨t1,t2,tb,tz⟩:=two w (.cells #[.int .i64 so,.bool on,.int .i64 n,.string ⟨t.toArray⟩,.slice a1 l.length c1,.slice a2 ks.length c2] 26) (.cells #[.int .i64 so',.bool on',.int .i64 n',.string ⟨t'.toArray⟩,.slice a1' l'.length c1',.slice a2' ks'.length c2'] 26)
  have T1:=Lib.hid t1
  have T2:=Lib.hid t2
  have TB:=Lib.hid tb
  have TZ:=Lib.hid tz
  have HL:=Lib.hid hl
  have HL':=Lib.hid hl'
  have HIH:=Lib.hid IH
  have HWM:=Lib.hid (fun v (h:v∈l)=>Nat.le_trans (wtL_mem h) hwl)
  have HWM':=Lib.hid (fun v (h:v∈l')=>Nat.le_trans (wtL_mem h) hwl')
  have HFL:=Lib.hid (@sameP_false so so' on on' n n' t t' l l' ks ks')
  have HTR:=Lib.hid (show ks=ks'→so=so'→on=on'→n=n'→t=t'→sameP (.mk so on n t l ks) (.mk so' on' n' t' l' ks')=sameLs l l' from fun h1 h2 h3 h4 h5=>by subst h1;subst h2;subst h3;subst h4;subst h5;simp [sameP])
  obtain ⟨F,hF⟩:∃ F,sameP (.mk so on n t l ks) (.mk so' on' n' t' l' ks')=F:=⟨_,rfl⟩
  rw [hF] at HFL HTR ⊢
  simp only [arg,six',six,strCell] at cE ⊢
  clear hW hw hw' hw2 hw2' hwl hwl' hkl t1 t2 tb tz hl hl' IH hF
  go_enter Tryz.func11,Tryz.ntmps11
  go_wp2_with fail
  refine (cE _ TB.out).mono ?_
  rintro e w1 ⟨rfl,hb1⟩
  have htz:=TZ.out
  have HB1:=Lib.hid (TB.out.trans (hb1.mono (by omega)))
  have HX1:=Lib.hid ((hb1.block w.heap.size (by omega)).trans T1.out)
  have HY1:=Lib.hid ((hb1.block (w.heap.size+1) (by omega)).trans T2.out)
  have hz1:=hb1.size
  rw [htz] at hz1
  obtain ⟨⟨j0,j1,j2,j3,j4,j5⟩,jf⟩:=cells_six HX1.out
  obtain ⟨⟨k0,k1,k2,k3,k4,k5⟩,kf⟩:=cells_six HY1.out
  clear cE hb1 htz T1 T2 TB TZ
  by_cases hk:ks=ks'
  ·rw [decide_eq_true hk]
   by_cases hc:so=so'∧on=on'∧n=n'∧t=t'∧l.length=l'.length
   ·obtain ⟨rfl,rfl,rfl,rfl,hlen⟩:=hc
    have HFF:=Lib.hid (show F=sameLs (l.drop 0) (l'.drop 0) from HTR.out hk rfl rfl rfl rfl)
    have hkl:ks.length=ks'.length:=by rw [hk]
    obtain ⟨ln,hln⟩:∃ k,l.length=k:=⟨_,rfl⟩
    have HLN:=Lib.hid hln
    have HLN':=Lib.hid (hlen.symm.trans hln)
    rw [← hlen,hln] at HY1 k4 ⊢
    rw [hln] at HX1 j4 hlb
    clear hk HFL HTR hlen hkl hln hlb'
    go_wp2_with fail
    clear j0 j1 j2 j3 j4 j5 jf k0 k1 k2 k3 k4 k5 kf
    go_loopw [6] (fun iv wr=>∃ i:Nat,iv=.int .i64 i∧i≤ln∧Hid (F=sameLs (l.drop i) (l'.drop i))∧Hid (Below w1.heap.size w1 wr)) (fun iv _=>ln - (Go.RowKit.intOf iv).toNat)
    case atStart=>exact ⟨0,rfl,by omega,HFF,Lib.hid (Below.refl _ _)⟩
    case round =>
     obtain ⟨i,rfl,hi,HI,HB⟩:=hrel
     have hzr:=HB.out.size
     have hbw:=HB1.out.trans (HB.out.mono HB1.out.size)
     have HXr:=Lib.hid ((HB.out.block w.heap.size (by omega)).trans HX1.out)
     have HYr:=Lib.hid ((HB.out.block (w.heap.size+1) (by omega)).trans HY1.out)
     obtain ⟨⟨j0,j1,j2,j3,j4,j5⟩,jf⟩:=cells_six HXr.out
     by_cases hlt:i<ln
     ·have hll:i<l.length:=by rw [HLN.out];exact hlt
      have hll':i<l'.length:=by rw [HLN'.out];exact hlt
      obtain ⟨g,off,xs,rfl,hg,hc,hL⟩:=HL.out.resolve_left (fun h=>by rw [h] at hll;exact Nat.not_lt_zero _ hll)
      obtain ⟨g',off',xs',rfl,hg',hc',hL'⟩:=HL'.out.resolve_left (fun h=>by rw [h] at hll';exact Nat.not_lt_zero _ hll')
      have hsm:∀ Q,Same Q w wr:=fun _ b _ hb=>hbw.block b hb
      obtain ⟨so1,on1,n1,t1,l1,ks1,b1,d1,b2,d2,he,hv1,p0,p1,p2,p3,p4,p5⟩:=part_at i (ListIn.later (hsm R) (fun _ h=>h) l xs hL) (hc.later hg (hsm R)) hll
      obtain ⟨so2,on2,n2,t2,l2,ks2,e1,f1,e2,f2,he',hv2,q0,q1,q2,q3,q4,q5⟩:=part_at i (ListIn.later (hsm R') (fun _ h=>h) l' xs' hL') (hc'.later hg' (hsm R')) hll'
      have hI:=HI.out
      rw [sameLs_drop hll hll',he,he'] at hI
      have cP:=fun W' (hb':Below wr.heap.size wr W')=>(HIH.out l[i] (List.getElem_mem hll)) l'[i] (.slice b1 l1.length d1) (.slice b2 ks1.length d2) (.slice e1 l2.length f1) (.slice e2 ks2.length f2) R R' W'
       (by rw [he];exact ValIn.later (fun b _ hb=>hb'.block b hb) (fun _ h=>h) _ _ _ hv1) (by rw [he'];exact ValIn.later (fun b _ hb=>hb'.block b hb) (fun _ h=>h) _ _ _ hv2) (HWM.out _ (List.getElem_mem hll)) (HWM'.out _ (List.getElem_mem hll'))
      rw [he,he'] at cP
      obtain ⟨bb,hbb⟩:∃ b,sameP (.mk so1 on1 n1 t1 l1 ks1) (.mk so2 on2 n2 t2 l2 ks2)=b:=⟨_,rfl⟩
      rw [hbb] at hI
      simp only [hbb,arg,six',six,strCell] at cP
      obtain ⟨⟨k0,k1,k2,k3,k4,k5⟩,kf⟩:=cells_six HYr.out
      have CC:Hid (∀ W,Below wr.heap.size wr W→(fun W=>W.cell? ⟨w.heap.size,4,none⟩=some (.slice (some ⟨g,off,none⟩) ln c1)∧W.cell? ⟨w.heap.size+1,4,none⟩=some (.slice (some ⟨g',off',none⟩) ln c1')∧W.cell? ⟨g,off+i*6,none⟩=some (.int .i64 so1)∧W.cell? ⟨g,off+i*6+1,none⟩=some (.bool on1)∧W.cell? ⟨g,off+i*6+2,none⟩=some (.int .i64 n1)∧W.cell? ⟨g,off+i*6+3,none⟩=some (.string ⟨t1.toArray⟩)∧W.cell? ⟨g,off+i*6+4,none⟩=some (.slice b1 l1.length d1)∧W.cell? ⟨g,off+i*6+5,none⟩=some (.slice b2 ks1.length d2)∧W.cell? ⟨g',off'+i*6,none⟩=some (.int .i64 so2)∧W.cell? ⟨g',off'+i*6+1,none⟩=some (.bool on2)∧W.cell? ⟨g',off'+i*6+2,none⟩=some (.int .i64 n2)∧W.cell? ⟨g',off'+i*6+3,none⟩=some (.string ⟨t2.toArray⟩)∧W.cell? ⟨g',off'+i*6+4,none⟩=some (.slice e1 l2.length f1)∧W.cell? ⟨g',off'+i*6+5,none⟩=some (.slice e2 ks2.length f2)∧Below wr.heap.size wr W) W):=Lib.hid fun W hb=>by
       have hc0:=fun (p:Addr) (u:Value) (hp:wr.cell? p=some u)=>(hb.cell (p:=p) (Lib.lt_of_cell hp)).trans hp
       exact ⟨hc0 _ _ j4,hc0 _ _ k4,hc0 _ _ p0,hc0 _ _ p1,hc0 _ _ p2,hc0 _ _ p3,hc0 _ _ p4,hc0 _ _ p5,hc0 _ _ q0,hc0 _ _ q1,hc0 _ _ q2,hc0 _ _ q3,hc0 _ _ q4,hc0 _ _ q5,hb⟩
      have cP2:∀ W,(fun W=>W.cell? ⟨w.heap.size,4,none⟩=some (.slice (some ⟨g,off,none⟩) ln c1)∧W.cell? ⟨w.heap.size+1,4,none⟩=some (.slice (some ⟨g',off',none⟩) ln c1')∧W.cell? ⟨g,off+i*6,none⟩=some (.int .i64 so1)∧W.cell? ⟨g,off+i*6+1,none⟩=some (.bool on1)∧W.cell? ⟨g,off+i*6+2,none⟩=some (.int .i64 n1)∧W.cell? ⟨g,off+i*6+3,none⟩=some (.string ⟨t1.toArray⟩)∧W.cell? ⟨g,off+i*6+4,none⟩=some (.slice b1 l1.length d1)∧W.cell? ⟨g,off+i*6+5,none⟩=some (.slice b2 ks1.length d2)∧W.cell? ⟨g',off'+i*6,none⟩=some (.int .i64 so2)∧W.cell? ⟨g',off'+i*6+1,none⟩=some (.bool on2)∧W.cell? ⟨g',off'+i*6+2,none⟩=some (.int .i64 n2)∧W.cell? ⟨g',off'+i*6+3,none⟩=some (.string ⟨t2.toArray⟩)∧W.cell? ⟨g',off'+i*6+4,none⟩=some (.slice e1 l2.length f1)∧W.cell? ⟨g',off'+i*6+5,none⟩=some (.slice e2 ks2.length f2)∧Below wr.heap.size wr W) W→Calls Tryz.prog 11 #[.agg #[.int .i64 so1,.bool on1,.int .i64 n1,.string ⟨t1.toArray⟩,.slice b1 l1.length d1,.slice b2 ks1.length d2],.agg #[.int .i64 so2,.bool on2,.int .i64 n2,.string ⟨t2.toArray⟩,.slice e1 l2.length f1,.slice e2 ks2.length f2]] W fun e w'=>e=.returned (.bool bb)∧(fun W=>W.cell? ⟨w.heap.size,4,none⟩=some (.slice (some ⟨g,off,none⟩) ln c1)∧W.cell? ⟨w.heap.size+1,4,none⟩=some (.slice (some ⟨g',off',none⟩) ln c1')∧W.cell? ⟨g,off+i*6,none⟩=some (.int .i64 so1)∧W.cell? ⟨g,off+i*6+1,none⟩=some (.bool on1)∧W.cell? ⟨g,off+i*6+2,none⟩=some (.int .i64 n1)∧W.cell? ⟨g,off+i*6+3,none⟩=some (.string ⟨t1.toArray⟩)∧W.cell? ⟨g,off+i*6+4,none⟩=some (.slice b1 l1.length d1)∧W.cell? ⟨g,off+i*6+5,none⟩=some (.slice b2 ks1.length d2)∧W.cell? ⟨g',off'+i*6,none⟩=some (.int .i64 so2)∧W.cell? ⟨g',off'+i*6+1,none⟩=some (.bool on2)∧W.cell? ⟨g',off'+i*6+2,none⟩=some (.int .i64 n2)∧W.cell? ⟨g',off'+i*6+3,none⟩=some (.string ⟨t2.toArray⟩)∧W.cell? ⟨g',off'+i*6+4,none⟩=some (.slice e1 l2.length f1)∧W.cell? ⟨g',off'+i*6+5,none⟩=some (.slice e2 ks2.length f2)∧Below wr.heap.size wr W) w':=fun W hS=>(cP W hS.2.2.2.2.2.2.2.2.2.2.2.2.2.2).mono (by
       rintro e w' ⟨h1,h2⟩
       exact ⟨h1,CC.out _ (hS.2.2.2.2.2.2.2.2.2.2.2.2.2.2.trans (h2.mono hS.2.2.2.2.2.2.2.2.2.2.2.2.2.2.size))⟩)
      have hS0:=CC.out _ (Below.refl wr.heap.size wr).drew
      dsimp only at cP2 hS0
      have HII:=Lib.hid hI
      clear hI he he' hv1 hv2 hbb hsm hL hc hL' hc' cP CC j0 j1 j2 j3 j5 jf k0 k1 k2 k3 k4 k5 kf p0 p1 p2 p3 p4 p5 q0 q1 q2 q3 q4 q5
      go_wp2_with fail
      go_region_held3 (fun W=>W.cell? ⟨w.heap.size,4,none⟩=some (.slice (some ⟨g,off,none⟩) ln c1)∧W.cell? ⟨w.heap.size+1,4,none⟩=some (.slice (some ⟨g',off',none⟩) ln c1')∧W.cell? ⟨g,off+i*6,none⟩=some (.int .i64 so1)∧W.cell? ⟨g,off+i*6+1,none⟩=some (.bool on1)∧W.cell? ⟨g,off+i*6+2,none⟩=some (.int .i64 n1)∧W.cell? ⟨g,off+i*6+3,none⟩=some (.string ⟨t1.toArray⟩)∧W.cell? ⟨g,off+i*6+4,none⟩=some (.slice b1 l1.length d1)∧W.cell? ⟨g,off+i*6+5,none⟩=some (.slice b2 ks1.length d2)∧W.cell? ⟨g',off'+i*6,none⟩=some (.int .i64 so2)∧W.cell? ⟨g',off'+i*6+1,none⟩=some (.bool on2)∧W.cell? ⟨g',off'+i*6+2,none⟩=some (.int .i64 n2)∧W.cell? ⟨g',off'+i*6+3,none⟩=some (.string ⟨t2.toArray⟩)∧W.cell? ⟨g',off'+i*6+4,none⟩=some (.slice e1 l2.length f1)∧W.cell? ⟨g',off'+i*6+5,none⟩=some (.slice e2 ks2.length f2)∧Below wr.heap.size wr W) (first|assumption) (first|(go_at_call 11;(with_reducible refine (cP2 _ ?_).mono ?_);assumption;rintro e ws ⟨rfl,hSs⟩))
      have HBs:=Lib.hid (HB.out.trans (hSs.2.2.2.2.2.2.2.2.2.2.2.2.2.2.mono hzr))
      clear hS0 hSs cP2 j4
      cases bb with
      | false =>
       have hF:F=false:=by rw [HII.out];rfl
       subst hF
       go_wp2_with fail
       go_ret
       exact ⟨rfl,HB1.out.trans (HBs.out.mono HB1.out.size)⟩
      | true =>
       go_wp2_with fail
       go_roundw
       case rel=>exact ⟨i+1,by go_num,by omega,Lib.hid (by rw [HII.out,Bool.true_and]),HBs⟩
       case measure=>simp [Go.RowKit.intOf];omega
     ·have hF:F=true:=by
       rw [HI.out,List.drop_eq_nil_of_le (by rw [HLN.out];omega),List.drop_eq_nil_of_le (by rw [HLN'.out];omega)];simp [sameLs]
      subst hF
      have HE:=Lib.hid hbw
      clear hbw
      go_wp2_with fail
      go_ret
      exact ⟨rfl,HE.out⟩
   ·have hF0:F=false:=HFL.out (fun h=>hc h.2)
    subst hF0
    have HH:=Lib.hid hc
    clear hc hk HFL HTR
    go_wp2_with fail
    all_goals first
     | (go_ret;exact ⟨rfl,HB1.out⟩)
     | exact absurd HH.out (by simp_all <;> omega)
  ·rw [decide_eq_false hk]
   have hF0:F=false:=HFL.out (fun h=>hk h.1)
   subst hF0
   clear hk
   go_wp2_with fail
   go_ret
   exact ⟨rfl,HB1.out⟩
end Go.Proofs.YtpbnhnilfpoljaaGreatDoor.V
