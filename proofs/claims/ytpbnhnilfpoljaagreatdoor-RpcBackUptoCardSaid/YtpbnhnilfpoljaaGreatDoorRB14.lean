/- What the claim needs of the texts VTo, MPlain. -/
import Derived.Test.YtpbnhnilfpoljaaGreatDoorRB12
import Derived.Deep.RegionLaw
import Derived.Deep.AppendLies
import Derived.OwnWalk
import Derived.Laws.Pointers
import Derived.Test.YtpbnhnilfpoljaaGreatDoorRB13
import Derived.Deep.RegionHeld3
import Derived.Deep.DrawnRows
namespace Go.Proofs.YtpbnhnilfpoljaaGreatDoor.V
open Go.RowKit
open Go.Lib
structure ToSt (B:Nat) (so:Int) (on:Bool) (n:Int) (t:List UInt8) (bl kv lvo:Value) (vs:List Val) (xs:List Value) (w wr:World):Prop where
 below:Below w.heap.size w wr
 size:w.heap.size+3≤wr.heap.size
 box:wr.heap[w.heap.size]?=some (.cells #[.int .i64 so,.bool on,.int .i64 n,.string ⟨t.toArray⟩,bl,kv] 36 (0,0))
 res:wr.heap[w.heap.size+1]?=some (.cells #[.int .i64 0,.bool false,.int .i64 0,.string ⟨#[]⟩,.slice none 0 0,.slice none 0 0] 26 (0,0))
 val:wr.heap[w.heap.size+2]?=some (.cells #[.int .i64 so,.bool on,.int .i64 n,.string ⟨t.toArray⟩,lvo,kv] 26 (0,0))
 own:wr.ownsRow (w.heap.size+3) 26 6 lvo vs.length xs
 parts:ListIn wr (fun g=>g<B∨(w.heap.size+3≤g∧lvo.ownBlock≠some g)) vs xs
theorem to_step {B gg capg m:Nat} {so n:Int} {on:Bool} {t:List UInt8} {bl kv lvo lv' kv':Value} {vs:List Val} {v:Val} {xs:List Value} {w wr w2 w3:World} {zo:Obj}
  (hst:ToSt B so on n t bl kv lvo vs xs w wr) (hm:vs.length=m) (hB:B≤w.heap.size) (hb2:Below wr.heap.size wr w2) (hv:ValIn w2 (fun g=>g<B∨wr.heap.size≤g) v lv' kv')
  (hgrow:(w2.alloc zo).grownBy w3 lvo.ownBlock)
  (hown3:w3.ownsRow (w.heap.size+3) 26 6 (.slice (some ⟨gg,0,none⟩) (m+1) capg) (m+1) (xs++six' v lv' kv'))
  (hat:lvo.ownBlock=some gg∨gg=w2.heap.size+1) :
  ToSt B so on n t bl kv (.slice (some ⟨gg,0,none⟩) (m+1) capg) (vs++[v]) (xs++six' v lv' kv') w (w3.setCell ⟨w.heap.size+2,4,none⟩ (.slice (some ⟨gg,0,none⟩) (m+1) capg)):=by
 have hrow:∀ k,lvo.ownBlock=some k→w.heap.size+3≤k∧k<wr.heap.size:=fun k hk=>World.ownsRowF.lt (World.ownsRowF_of hst.own) k hk
 have hz2:=hb2.size
 have hz0:=hst.size
 have hgB:w.heap.size+3≤gg:=by
  rcases hat with h|h
  ·exact (hrow gg h).1
  ·omega
 have hne2:gg≠w.heap.size+2:=by omega
 have hggw:∀ k,k<w2.heap.size→lvo.ownBlock≠some k→k≠gg:=fun k hk hne h=>by
  subst h;rcases hat with h|h
  ·exact hne h
  ·omega
 have far3:∀ k,k<w2.heap.size→lvo.ownBlock≠some k→w3.heap[k]?=w2.heap[k]?:=fun k hk hne=>by
  rw [hgrow.block k (by simp;omega) (fun h=>hne h.symm)]
  exact Below.heap_alloc w2 zo k (by omega)
 have far2:∀ k,k<w2.heap.size→lvo.ownBlock≠some k→k≠w.heap.size+2→(w3.setCell ⟨w.heap.size+2,4,none⟩ (.slice (some ⟨gg,0,none⟩) (m+1) capg)).heap[k]?=w2.heap[k]?:=fun k hk hne hkb=>by
  rw [Below.heap_setCell _ _ _ _ hkb]
  exact far3 k hk hne
 have hlow:∀ k,k<w.heap.size+3→lvo.ownBlock≠some k:=fun k hk h=>by have:=hrow k h;omega
 have hs3:=hgrow.size
 simp only [World.size_alloc] at hs3
 refine ⟨?_,?_,?_,?_,?_,?_,?_⟩
 ·refine ⟨hgrow.os.trans (hb2.os.trans hst.below.os),hgrow.tape.trans (hb2.tape.trans hst.below.tape),hgrow.output.trans (hb2.output.trans hst.below.output),?_,fun k hk=>?_⟩
  ·rw [sc_size];omega
  ·exact (far2 k (by omega) (hlow k (by omega)) (by omega)).trans ((hb2.block k (by omega)).trans (hst.below.block k hk))
 ·rw [sc_size];omega
 ·exact (far2 _ (by omega) (hlow _ (by omega)) (by omega)).trans ((hb2.block _ (by omega)).trans hst.box)
 ·exact (far2 _ (by omega) (hlow _ (by omega)) (by omega)).trans ((hb2.block _ (by omega)).trans hst.res)
 ·exact Go.Joins.block_setCell (cs:=#[.int .i64 so,.bool on,.int .i64 n,.string ⟨t.toArray⟩,lvo,kv]) (i:=4) ((far3 _ (by omega) (hlow _ (by omega))).trans ((hb2.block _ (by omega)).trans hst.val)) _
 ·rw [List.length_append,List.length_singleton,hm]
  refine ownsRow_same hown3 fun g hg=>?_
  have hg:gg=g:=by simpa [Value.ownBlock] using hg
  have hg2:g≠w.heap.size+2:=by omega
  rw [Below.heap_setCell _ _ _ _ hg2]
 ·refine ListIn.snoc ?_ ?_
  ·refine ListIn.later (R:=fun g=>(g<B∨(w.heap.size+3≤g∧lvo.ownBlock≠some g))∧g<wr.heap.size) (fun g hg hlt=>?_) (fun g hg=>?_) vs xs (ListIn.bound vs xs hst.parts)
   ·have hne:lvo.ownBlock≠some g:=by
     rcases hg.1 with h|h
     ·exact hlow g (by omega)
     ·exact h.2
    have:g≠w.heap.size+2:=by
     rcases hg.1 with h|h
     ·omega
     ·omega
    exact (far2 g (by omega) hne this).trans (hb2.block g hlt)
   ·rcases hg.1 with h|h
    ·exact .inl h
    ·refine .inr ⟨h.1,fun h2=>?_⟩
     have h2:gg=g:=by simpa [Value.ownBlock] using h2
     exact hggw g (by omega) h.2 h2.symm
  ·refine ValIn.later (R:=fun g=>(g<B∨wr.heap.size≤g)∧g<w2.heap.size) (fun g hg hlt=>?_) (fun g hg=>?_) _ _ _ (ValIn.bound _ _ _ hv)
   ·have hne:lvo.ownBlock≠some g:=fun h=>by
     have:=hrow g h
     rcases hg.1 with h|h <;> omega
    exact far2 g hlt hne (by rcases hg.1 with h|h <;> omega)
   ·rcases hg.1 with h|h
    ·exact .inl h
    ·refine .inr ⟨by omega,fun h2=>?_⟩
     have h2:gg=g:=by simpa [Value.ownBlock] using h2
     exact hggw g hg.2 (fun h3=>by have:=hrow g h3;omega) h2.symm
theorem to_end {B:Nat} {so n:Int} {on:Bool} {t:List UInt8} {bl kv lvo:Value} {vs:List Val} {ks:List (List UInt8)} {xs:List Value} {w wr:World}
  (hst:ToSt B so on n t bl kv lvo vs xs w wr) (hk:KeysIn w (fun g=>g<B) ks kv):ValIn wr (fun g=>g<B∨w.heap.size+3≤g) (.mk so on n t vs ks) lvo kv:=by
 refine ⟨?_,hk.later (fun g hg hlt=>hst.below.block g hlt) (fun _ h=>.inl h)⟩
 rcases hst.own.2 with ⟨h1,h2⟩|⟨g,cap,cur,h1,hg,hgg,hle,hcap,hsz,htake⟩
 ·exact ⟨none,0,by rw [h1,h2],.inl (List.eq_nil_of_length_eq_zero h2)⟩
 ·refine ⟨some ⟨g,0,none⟩,cap,h1,.inr ⟨g,0,xs,rfl,.inr hg,fun j u hj=>?_,ListIn.later (fun _ _ _=>rfl) (fun g hg=>hg.imp id (·.1)) _ _ hst.parts⟩⟩
  rw [Nat.zero_add]
  unfold World.cell?
  rw [hgg]
  rw [← htake,List.getElem?_take] at hj
  split at hj
  ·simpa using hj
  ·cases hj
theorem to_start (B:Nat) (so:Int) (on:Bool) (n:Int) (t:List UInt8) (bl kv:Value) (w:World) :
  ToSt B so on n t bl kv (.slice none 0 0) [] [] w (((w.alloc (.cells #[.int .i64 so,.bool on,.int .i64 n,.string ⟨t.toArray⟩,bl,kv] 36)).alloc (.cells #[.int .i64 0,.bool false,.int .i64 0,.string ⟨#[]⟩,.slice none 0 0,.slice none 0 0] 26)).alloc (.cells #[.int .i64 so,.bool on,.int .i64 n,.string ⟨t.toArray⟩,.slice none 0 0,kv] 26)):=by
 obtain ⟨h1,h2,h3,h4⟩:=two w (.cells #[.int .i64 so,.bool on,.int .i64 n,.string ⟨t.toArray⟩,bl,kv] 36) (.cells #[.int .i64 0,.bool false,.int .i64 0,.string ⟨#[]⟩,.slice none 0 0,.slice none 0 0] 26)
 generalize (w.alloc (.cells #[.int .i64 so,.bool on,.int .i64 n,.string ⟨t.toArray⟩,bl,kv] 36)).alloc (.cells #[.int .i64 0,.bool false,.int .i64 0,.string ⟨#[]⟩,.slice none 0 0,.slice none 0 0] 26)=W at *
 have h5:=heap_alloc_new W (.cells #[.int .i64 so,.bool on,.int .i64 n,.string ⟨t.toArray⟩,.slice none 0 0,kv] 26)
 have hb:Below W.heap.size W (W.alloc (.cells #[.int .i64 so,.bool on,.int .i64 n,.string ⟨t.toArray⟩,.slice none 0 0,kv] 26)):=(Below.refl _ _).alloc (Nat.le_refl _) _
 rw [h4] at h5
 exact ⟨h3.trans (hb.mono (by omega)),by simp;omega,(hb.block _ (by omega)).trans h1,(hb.block _ (by omega)).trans h2,h5,⟨by simp,.inl ⟨rfl,rfl⟩⟩,rfl⟩
theorem infoR:(Tryz.prog.info? 26).map (fun i=>(i.zero,i.size,i.bytes))=some (some (.agg #[.int .i64 0,.bool false,.int .i64 0,.string ⟨#[]⟩,.slice none 0 0,.slice none 0 0]),6,88):=by kernel_rfl
def ToC (v:Val):Prop:=∀ (lv kv:Value) (B:Nat) (w:World),ValIn w (fun g=>g<B) v lv kv→B≤w.heap.size→wt v≤1099511627776 →
 Calls Tryz.prog 12 #[arg v lv kv] w fun e w'=>Below w.heap.size w w'∧∃ lv',e=.returned (arg v lv' kv)∧ValIn w' (fun g=>g<B∨w.heap.size≤g) v lv' kv
set_option maxHeartbeats 8000000 in
set_option maxRecDepth 100000 in
theorem to_v:∀ v,ToC v:=Val.ind fun so on n t l ks IH lv kv B w hv hB hw=>by
 obtain ⟨i0,hi0,hz0,hz1,hz2⟩:=info_parts infoR
 have hv':=hv
 obtain ⟨⟨a1,c1,rfl,hl⟩,⟨a2,c2,rfl,hk⟩⟩:=hv'
 have HV:=Lib.hid hv
 have HL:=Lib.hid hl
 have HIH:=Lib.hid IH
 have hw2:=hw
 simp only [wt] at hw2
 have hw3:wtL l≤1099511627776:=by omega
 have HWM:=Lib.hid (fun v (h:v∈l)=>Nat.le_trans (wtL_mem h) hw3)
 have hlb:l.length≤1099511627776:=Nat.le_trans (wtL_length l) hw3
 obtain ⟨ln,hln⟩:∃ k,l.length=k:=⟨_,rfl⟩
 obtain ⟨kn,hkn⟩:∃ k,ks.length=k:=⟨_,rfl⟩
 have HLN:=Lib.hid hln
 have HKN:=Lib.hid hkn
 simp only [arg,six',six,strCell]
 rw [hln,hkn]
 rw [hln] at hlb
 clear hv hl hk IH hw hw2 hw3 hln hkn
 go_enter Tryz.func12,Tryz.ntmps12
 go_wp2_with fail
 obtain ⟨w1,hw1⟩:∃ w1,((w.alloc (.cells #[.int .i64 so,.bool on,.int .i64 n,.string ⟨t.toArray⟩,.slice a1 ln c1,.slice a2 kn c2] 36)).alloc (.cells #[.int .i64 0,.bool false,.int .i64 0,.string ⟨#[]⟩,.slice none 0 0,.slice none 0 0] 26)).alloc (.cells #[.int .i64 so,.bool on,.int .i64 n,.string ⟨t.toArray⟩,.slice none 0 0,.slice a2 kn c2] 26)=w1:=⟨_,rfl⟩
 rw [hw1]
 have HST:Hid (ToSt B so on n t (.slice a1 ln c1) (.slice a2 kn c2) (.slice none 0 0) [] [] w w1):=Lib.hid (by
  rw [← hw1]
  exact to_start B so on n t _ _ w)
 clear hw1
 go_loopw [4] (fun iv wr=>∃ (i:Nat) (ao:Option Addr) (cap:Nat) (xs:List Value),iv=.int .i64 i∧i≤ln∧Hid (ToSt B so on n t (.slice a1 ln c1) (.slice a2 kn c2) (.slice ao i cap) (l.take i) xs w wr)) (fun iv _=>ln - (Go.RowKit.intOf iv).toNat)
 case atStart=>exact ⟨0,none,0,[],rfl,by omega,HST⟩
 case round =>
  obtain ⟨i,ao,cap,xs,rfl,hi,HI⟩:=hrel
  obtain ⟨⟨k0,k1,k2,k3,k4,k5⟩,kf⟩:=cells_six HI.out.box
  by_cases hlt:i<ln
  ·have hll:i<l.length:=by rw [HLN.out];exact hlt
   obtain ⟨g,off,xs0,rfl,hg,hc,hL⟩:=HL.out.resolve_left (fun h=>by rw [h] at hll;exact Nat.not_lt_zero _ hll)
   have hsm:Same (fun g=>g<B) w wr:=fun b _ hb=>HI.out.below.block b hb
   obtain ⟨so',on',n',t',l',ks',a1',c1',a2',c2',he,hv',j0,j1,j2,j3,j4,j5⟩:=part_at i (ListIn.later hsm (fun _ h=>h) l xs0 hL) (hc.later hg hsm) hll
   have hzr:=HI.out.size
   have cP:∀ W',Below wr.heap.size wr W'→Calls Tryz.prog 12 #[arg l[i] (.slice a1' l'.length c1') (.slice a2' ks'.length c2')] W' fun e w'=>Below wr.heap.size wr w'∧∃ lv',e=.returned (arg l[i] lv' (.slice a2' ks'.length c2'))∧ValIn w' (fun g=>g<B∨wr.heap.size≤g) l[i] lv' (.slice a2' ks'.length c2'):=fun W' hb'=>by
    refine ((HIH.out l[i] (List.getElem_mem hll)) (.slice a1' l'.length c1') (.slice a2' ks'.length c2') B W' (by rw [he];exact ValIn.later (fun b _ hb=>hb'.block b hb) (fun _ h=>h) _ _ _ hv') (by have:=hb'.size;omega) (HWM.out _ (List.getElem_mem hll))).mono ?_
    rintro e w' ⟨h1,lv',h2,h3⟩
    exact ⟨hb'.trans (h1.mono hb'.size),lv',h2,h3.later (fun _ _ _=>rfl) (fun g hg=>hg.imp id (fun h=>Nat.le_trans hb'.size h)) _ _ _⟩
   have htk:l.take (i+1)=l.take i++[l[i]]:=List.take_succ_eq_append_getElem hll
   have htl:(l.take i).length=i:=by simp;omega
   rw [he] at cP htk
   have hcP:∀ W',Below wr.heap.size wr W'→Calls Tryz.prog 12 #[.agg #[.int .i64 so',.bool on',.int .i64 n',.string ⟨t'.toArray⟩,.slice a1' l'.length c1',.slice a2' ks'.length c2']] W' fun e w2=>∃ a3 c3,e=.returned (.agg #[.int .i64 so',.bool on',.int .i64 n',.string ⟨t'.toArray⟩,.slice a3 l'.length c3,.slice a2' ks'.length c2']) ∧
     Hid (Below wr.heap.size wr w2)∧Hid (ValIn w2 (fun g=>g<B∨wr.heap.size≤g) (.mk so' on' n' t' l' ks') (.slice a3 l'.length c3) (.slice a2' ks'.length c2')) ∧
     w2.cell? ⟨w.heap.size,4,none⟩=some (.slice (some ⟨g,off,none⟩) ln c1)∧w2.cell? ⟨w.heap.size+2,4,none⟩=some (.slice ao i cap)∧(∀ j,w2.frozen? ⟨w.heap.size+2,j,none⟩=false)∧Hid (w2.ownsRow (w.heap.size+3) 26 6 (.slice ao i cap) i xs):=fun W' hb'=>by
    refine (cP W' hb').mono ?_
    rintro e w' ⟨h1,lv',rfl,h3⟩
    have h4:=h3
    obtain ⟨⟨a3,c3,rfl,_⟩,_⟩:=h4
    have hbx:=cells_six ((h1.block _ (by omega)).trans HI.out.box)
    have hbv:=cells_six ((h1.block _ (by omega)).trans HI.out.val)
    have hown:=HI.out.own
    rw [htl] at hown
    exact ⟨a3,c3,rfl,Lib.hid h1,Lib.hid h3,hbx.1.2.2.2.2.1,hbv.1.2.2.2.2.1,hbv.2,Lib.hid (ownsRow_same hown fun g hg=>h1.block g (row_lt hown g hg).2)⟩
   obtain ⟨⟨q0,q1,q2,q3,q4,q5⟩,qf⟩:=cells_six HI.out.val
   have hbg:some (w.heap.size+2)≠(Value.slice ao i cap).ownBlock:=fun h=>by
    have:=row_lt HI.out.own _ h.symm
    omega
   have HTK:=Lib.hid htk
   have HTL:=Lib.hid htl
   have hHz:w.heap.size+3≤wr.heap.size:=hzr
   clear htk htl cP he hv' hsm hL hc
   go_wp2_with fail
   go_region_law (first
    | (refine step_append_lies _ (by rfl) _ _ _ (by rfl) (w.heap.size+3) 26 i0 _ 6 88 Tryz.underlying23 hi0 hz0 hz1 hz2 rfl (by omega) (.slice ao i cap) i xs (by rfl) (HO2.out.alloc _) ⟨w2.heap.size,0,none⟩ 1 1 [.int .i64 so',.bool on',.int .i64 n',.string ⟨t'.toArray⟩,.slice a3 l'.length c3,.slice a2' ks'.length c2'] (by rfl) (by rfl) (World.news_of_block (cs:=#[.int .i64 so',.bool on',.int .i64 n',.string ⟨t'.toArray⟩,.slice a3 l'.length c3,.slice a2' ks'.length c2']) (t:=26) (fr:=(0,0)) (heap_alloc_new w2 _)) (oneCell_six so' n' on' t' a3 a2' l'.length c3 ks'.length c2') (by omega) (by unfold maxLen;omega) (by omega) (by simp;omega) (w2.heap.size+1) (by simp) ?_;intro gg capg w3 hown3 hgrow hat hlt3;have kb3:=(hgrow.cell_far ⟨w.heap.size+2,4,none⟩ (by simp;omega) hbg).trans ((World.cell?_alloc_past _ _ _ hbt2).trans q4');have fb3:=(hgrow.frozen_far ⟨w.heap.size+2,4,none⟩ (by simp;omega) hbg).trans ((World.frozen?_alloc_past _ _ _ hbt2).trans (qf' 4)))
    | (go_simp;refine (hcP _ (by exact ⟨rfl,rfl,rfl,Nat.le_refl _,fun _ _=>rfl⟩)).mono ?_;rintro e w2 ⟨a3,c3,rfl,HB2,HV2,k4',q4',qf',HO2⟩;have hbt2:w.heap.size+2<w2.heap.size:=by have:=HB2.out.size;omega))
   all_goals
    have hfin:=to_step HI.out HTL.out hB HB2.out HV2.out hgrow hown3 hat
    have HFIN:=Lib.hid hfin
    clear hfin hown3 hgrow hat kb3 fb3 k4' q4' qf' k0 k1 k2 k3 k4 k5 kf j0 j1 j2 j3 j4 j5 q0 q1 q2 q3 q4 q5 qf hcP
    go_wp2_with fail
    go_roundw
    case rel=>exact ⟨i+1,some ⟨gg,0,none⟩,capg,_,by go_num,by omega,Lib.hid (by rw [HTK.out];exact HFIN.out)⟩
    case measure=>simp [Go.RowKit.intOf];omega
  ·have hil:i=ln:=by omega
   have htk:l.take i=l:=List.take_of_length_le (by rw [HLN.out];omega)
   have hst:=HI.out
   rw [htk,hil] at hst
   have hv:=HV.out
   obtain ⟨_,hkk⟩:=hv
   rw [HKN.out] at hkk
   have HEND:=Lib.hid (to_end hst hkk)
   have HST2:=Lib.hid hst
   obtain ⟨⟨q0,q1,q2,q3,q4,q5⟩,qf⟩:=cells_six hst.val
   obtain ⟨⟨r0,r1,r2,r3,r4,r5⟩,rf⟩:=cells_six hst.res
   obtain ⟨hp1,hp2⟩:=six_put' hst.res (.int .i64 so) (.bool on) (.int .i64 n) (.string ⟨t.toArray⟩) (.slice ao ln cap) (.slice a2 kn c2)
   have hmb:=(mut6 (d:=w.heap.size) (w.heap.size+1) (.int .i64 so) (.bool on) (.int .i64 n) (.string ⟨t.toArray⟩) (.slice ao ln cap) (.slice a2 kn c2) (Mut.of_below (d:=w.heap.size) hst.below) (by omega)).below (Nat.le_refl _)
   have hsv:∀ g,(g<B∨w.heap.size+3≤g)→g<wr.heap.size→((((((wr.setCell ⟨w.heap.size+1,0,none⟩ (.int .i64 so)).setCell ⟨w.heap.size+1,1,none⟩ (.bool on)).setCell ⟨w.heap.size+1,2,none⟩ (.int .i64 n)).setCell ⟨w.heap.size+1,3,none⟩ (.string ⟨t.toArray⟩)).setCell ⟨w.heap.size+1,4,none⟩ (.slice ao ln cap)).setCell ⟨w.heap.size+1,5,none⟩ (.slice a2 kn c2)).heap[g]?=wr.heap[g]?:=fun g hg _=>hp2 g (by omega)
   have HP1:=Lib.hid hp1
   have HMB:=Lib.hid hmb
   have HVE:=Lib.hid (ValIn.later (R':=fun g=>g<B∨w.heap.size≤g) hsv (fun g hg=>hg.imp id (fun h=>by omega)) _ _ _ HEND.out)
   clear hst hkk htk HI hp1 hp2 hmb hsv HEND
   go_wp2_with fail
   (try simp only [Exit.inBlock,Exit.then])
   refine bodyPost_ret (v:=.agg #[.int .i64 so,.bool on,.int .i64 n,.string ⟨t.toArray⟩,.slice ao ln cap,.slice a2 kn c2]) (results_cell_row rfl _ _ (w.heap.size+1) 26 #[.int .i64 so,.bool on,.int .i64 n,.string ⟨t.toArray⟩,.slice ao ln cap,.slice a2 kn c2] (0,0) _ (by rfl) HP1.out Tryz.underlying26 rfl (by kernel_rfl)) rfl ⟨HMB.out,.slice ao ln cap,rfl,HVE.out⟩
end Go.Proofs.YtpbnhnilfpoljaaGreatDoor.V
namespace Go.Proofs.YtpbnhnilfpoljaaGreatDoor.V
open Go.RowKit
open Go.Lib
mutual
theorem wt_of_size:∀ v,sizeV v≤400→wt v=sizeV v
 | .mk so on n t l ks,h=>by
  simp only [sizeV] at h ⊢
  have h2:=wt_of_sizeL l _ h
  have e:(ks.map fun k=>k.length+1).sum=sumK ks:=rfl
  simp only [wt,e]
  omega
theorem wt_of_sizeL:∀ (l:List Val) (n:Nat),sizeLs l n≤400→sizeLs l n=n+wtL l
 | [],n,h=>by simp [sizeLs,wtL]
 | v :: r,n,h=>by
  simp only [sizeLs] at h ⊢
  by_cases hn:n≤400
  ·rw [if_pos hn] at h ⊢
   have h2:=wt_of_sizeL r _ h
   have h1:=wt_of_size v (by omega)
   simp only [wtL]
   omega
  ·rw [if_neg hn] at h
   omega
end
set_option maxHeartbeats 2000000 in
theorem write_bad (so:Int) (on:Bool) (n:Int) (t:List UInt8) (l:List Val) (ks:List (List UInt8)) (lv kv:Value) (R:Nat→Prop) (w:World) (hv:ValIn w R (.mk so on n t l ks) lv kv) (hw:wt (.mk so on n t l ks)≤1099511627776) (hr:rightTop (.mk so on n t l ks)=false) (hE:EnvW w) :
  Calls Tryz.prog 17 #[arg (.mk so on n t l ks) lv kv] w fun e w'=>e=.returned (.tuple #[.string ⟨#[]⟩,.int .i64 21])∧Below w.heap.size w w':=by
 have cR:=fun W (hb:Below w.heap.size w W)=>right_top so on n t l ks lv kv R W (hv.later (fun b _ hlt=>hb.block b hlt) (fun _ h=>h) _ _ _) hw (hE.later hb)
 have hv':=hv
 obtain ⟨⟨a1,c1,rfl,_⟩,⟨a2,c2,rfl,_⟩⟩:=hv'
 simp only [hr] at cR
 simp only [arg,six',six,strCell] at cR ⊢
 clear hv hw hE hr
 go_enter Tryz.func17,Tryz.ntmps17
 go_wp2_with fail
 refine (cR _ ((Below.refl _ _).alloc (Nat.le_refl _) _)).mono ?_
 rintro e w1 ⟨rfl,hb1⟩
 have HB1:=Lib.hid (((Below.refl w.heap.size w).alloc (Nat.le_refl _) _).trans (hb1.mono (by simp)))
 have hblk:=(hb1.block w.heap.size (by simp)).trans (heap_alloc_new w _)
 have hz1:=hb1.size
 simp at hz1
 obtain ⟨⟨k0,k1,k2,k3,k4,k5⟩,kf⟩:=cells_six ((Below.heap_alloc w1 (.cells #[.pointer none,.slice none 0 0] 100) w.heap.size (by omega)).trans hblk)
 have HB2:=Lib.hid (HB1.out.alloc (by omega) (.cells #[.pointer none,.slice none 0 0] 100))
 clear cR hb1 hblk
 go_wp2_with fail
 go_ret2
 exact ⟨rfl,HB1.out⟩
section
variable {so n so' n':Int} {on on':Bool} {t t':List UInt8} {l l':List Val} {ks ks':List (List UInt8)}
theorem val_here {W:World} {v:Val} {lv kv:Value} (h:ValIn W (fun _=>True) v lv kv):ValIn W (fun g=>g<W.heap.size) v lv kv:=(ValIn.bound _ _ _ h).later (fun _ _ _=>rfl) (fun _ h=>h.2) _ _ _
theorem of_v2 {v:Val} {lv kv:Value} {w1:World} (h:ValIn w1 (fun _=>True) v lv kv) (hw:wt v≤1099511627776) (W:World) (hb:Below w1.heap.size w1 W) :
  Calls Tryz.prog 20 #[arg v lv kv] W fun e w'=>Below W.heap.size W w'∧∃ lv',e=.returned (arg v lv' kv)∧ValIn w' (fun _=>True) v lv' kv:=by
 refine (of_v v lv kv W.heap.size W (val_here (val_below h hb)) (Nat.le_refl _) hw).mono ?_
 rintro e w' ⟨h1,lv',h2,h3⟩
 exact ⟨h1,lv',h2,h3.later (fun _ _ _=>rfl) (fun _ _=>trivial) _ _ _⟩
end
def outS (v:Val):ByteArray:=if rightTop v then ⟨(write v).toArray⟩ else ⟨#[]⟩
def outE (v:Val):Int:=if rightTop v then 0 else 21
theorem write_out (v:Val) (hw:wt v≤65536) (W:World) (lv kv:Value) (h:ValIn W (fun _=>True) v lv kv) (hE:EnvW W) :
  Calls Tryz.prog 17 #[arg v lv kv] W fun e w'=>e=.returned (.tuple #[.string (outS v),.int .i64 (outE v)])∧Below W.heap.size W w':=by
 unfold outS outE
 obtain ⟨so,on,n,t,l,ks⟩:=v
 cases hr:rightTop (.mk so on n t l ks) with
 | true =>
  have hrp:rightP (.mk so on n t l ks)=true:=by simp only [rightTop,Bool.and_eq_true] at hr;exact hr.2
  have hl:=write_le _ hrp
  refine (write_top so on n t l ks _ _ _ W h (by omega) (by omega) hE).mono ?_
  rintro e w' ⟨h1,h2⟩
  rw [hr,if_pos rfl] at h2
  exact ⟨h2,h1⟩
 | false=>exact write_bad so on n t l ks lv kv _ W h (by omega) hr hE
theorem getP_wt:∀ (p:List (List UInt8)) (v u:Val),getP v p=some u→wt u≤wt v
 | [],v,u,h=>by
  have h:some v=some u:=by cases v;simpa [getP] using h
  injection h with h
  rw [h]
  exact Nat.le_refl _
 | x :: p,.mk so on n t l ks,u,h=>by
  by_cases hc:so=5∧ks.idxOf x<l.length∧ks.idxOf x<ks.length
  ·rw [getP_step hc.1 hc.2.1 hc.2.2] at h
   have h1:=getP_wt p _ u h
   have h2:wt l[ks.idxOf x]≤wtL l:=wtL_mem (List.getElem_mem hc.2.1)
   simp only [wt]
   omega
  ·rw [getP_no hc] at h
   cases h
end Go.Proofs.YtpbnhnilfpoljaaGreatDoor.V
namespace Go.Proofs.YtpbnhnilfpoljaaGreatDoor.M
open Go.Lib Go.Proofs.YtpbnhnilfpoljaaGreatDoor.V
def sortOf:Val→Int|.mk so _ _ _ _ _=>so
def numOf:Val→Int|.mk _ _ n _ _ _=>n
def textOf:Val→List UInt8|.mk _ _ _ t _ _=>t
def listOf:Val→List Val|.mk _ _ _ _ l _=>l
structure PlaceP where
 line:Int
 unit:Int
structure EditP where
 frm:PlaceP
 til:PlaceP
 text:List UInt8
 whole:Bool
structure CallP where
 kind:Int
 id:Val
 name:List UInt8
 version:Int
 text:List UInt8
 changes:List EditP
 place:PlaceP
 other:Val
def zV:Val:=.mk 0 false 0 [] [] []
def p0:PlaceP:=⟨0,0⟩
def call0 (k:Int) (id:Val):CallP:=⟨k,id,[],0,[],[],p0,zV⟩
def bJsonrpc:List UInt8:=[106,115,111,110,114,112,99]
def bTwo:List UInt8:=[50,46,48]
def bId:List UInt8:=[105,100]
def bMethod:List UInt8:=[109,101,116,104,111,100]
def bParams:List UInt8:=[112,97,114,97,109,115]
def bDoc:List UInt8:=[116,101,120,116,68,111,99,117,109,101,110,116]
def bUri:List UInt8:=[117,114,105]
def bVersion:List UInt8:=[118,101,114,115,105,111,110]
def bText:List UInt8:=[116,101,120,116]
def bChanges:List UInt8:=[99,111,110,116,101,110,116,67,104,97,110,103,101,115]
def bRange:List UInt8:=[114,97,110,103,101]
def bStart:List UInt8:=[115,116,97,114,116]
def bEnd:List UInt8:=[101,110,100]
def bLine:List UInt8:=[108,105,110,101]
def bChar:List UInt8:=[99,104,97,114,97,99,116,101,114]
def bPos:List UInt8:=[112,111,115,105,116,105,111,110]
def bInit:List UInt8:=[105,110,105,116,105,97,108,105,122,101]
def bShut:List UInt8:=[115,104,117,116,100,111,119,110]
def bExit:List UInt8:=[101,120,105,116]
def bOpen:List UInt8:=bDoc++[47,100,105,100,79,112,101,110]
def bChange:List UInt8:=bDoc++[47,100,105,100,67,104,97,110,103,101]
def bClose:List UInt8:=bDoc++[47,100,105,100,67,108,111,115,101]
def bHover:List UInt8:=bDoc++[47,104,111,118,101,114]
def bPull:List UInt8:=bDoc++[47,100,105,97,103,110,111,115,116,105,99]
def bCancel:List UInt8:=[36,47,99,97,110,99,101,108,82,101,113,117,101,115,116]
def methodP (k:Int):List UInt8 :=
 if k=1 then bInit else if k=2 then bShut else if k=3 then bExit else if k=4 then bOpen else if k=5 then bChange
 else if k=6 then bClose else if k=7 then bHover else if k=8 then bPull else if k=9 then bCancel else []
def reqP (k:Int):Bool:=k==1||k==2||k==7||k==8
def getZ (v:Val) (p:List (List UInt8)):Val:=(getP v p).getD zV
def hasP (v:Val) (p:List (List UInt8)):Bool:=(getP v p).isSome
def isText (v:Val) (p:List (List UInt8)):Bool:=hasP v p&&sortOf (getZ v p)==3
def isNum (v:Val) (p:List (List UInt8)):Bool:=hasP v p&&sortOf (getZ v p)==2
def textAt (v:Val) (p:List (List UInt8)):List UInt8:=textOf (getZ v p)
def numAt (v:Val) (p:List (List UInt8)):Int:=numOf (getZ v p)
def idP (v:Val):Bool:=sortOf v==2||sortOf v==3
def placeOk (v:Val) (p:List (List UInt8)):Bool:=hasP v p&&isNum (getZ v p) [bLine]&&isNum (getZ v p) [bChar]
def placeAt (v:Val) (p:List (List UInt8)):PlaceP:=⟨numAt (getZ v p) [bLine],numAt (getZ v p) [bChar]⟩
def changeAt (v:Val):EditP :=
 if hasP v [bRange] then ⟨placeAt v [bRange,bStart],placeAt v [bRange,bEnd],textAt v [bText],false⟩ else ⟨p0,p0,textAt v [bText],true⟩
def changeOk (v:Val):Bool:=isText v [bText]&&(if hasP v [bRange] then placeOk v [bRange,bStart]&&placeOk v [bRange,bEnd] else true)
def changesAt (p:Val):List EditP:=(listOf (getZ p [bChanges])).map changeAt
def changesOk (p:Val):Bool:=hasP p [bChanges]&&sortOf (getZ p [bChanges])==4&&(listOf (getZ p [bChanges])).all changeOk
def paramsP (k:Int) (id p:Val):CallP :=
 if k≤3 then call0 k id
 else if k=9 then { call0 k id with other:=getZ p [bId] }
 else
  { kind:=k,id:=id,name:=textAt p [bDoc,bUri],version:=if k=4∨k=5 then numAt p [bDoc,bVersion] else 0,text:=if k=4 then textAt p [bDoc,bText] else [],
    changes:=if k=5 then changesAt p else [],place:=if k=7 then placeAt p [bPos] else p0,other:=zV }
def paramsOk (k:Int) (p:Val):Bool :=
 if k≤3 then true
 else if k=9 then hasP p [bId]&&idP (getZ p [bId])
 else isText p [bDoc,bUri]&&(if k=4∨k=5 then isNum p [bDoc,bVersion] else true)&&(if k=4 then isText p [bDoc,bText] else true)&&(if k=5 then changesOk p else true)&&(if k=7 then placeOk p [bPos] else true)
def kindP (name:List UInt8) (has:Bool):Int :=
 if name=bInit∧has=true then 1 else if name=bShut∧has=true then 2 else if name=bExit∧has=false then 3 else if name=bOpen∧has=false then 4
 else if name=bChange∧has=false then 5 else if name=bClose∧has=false then 6 else if name=bHover∧has=true then 7 else if name=bPull∧has=true then 8
 else if name=bCancel∧has=false then 9 else 0
def wrongP (v:Val):Bool :=
 !isText v [bJsonrpc]||!decide (textAt v [bJsonrpc]=bTwo)||!isText v [bMethod]||(hasP v [bId]&&!idP (getZ v [bId]))||(hasP v [bParams]&&!(sortOf (getZ v [bParams])==5)&&!(sortOf (getZ v [bParams])==4))
def readM (v:Val):CallP × Int :=
 if wrongP v then (call0 0 zV,42)
 else if kindP (textAt v [bMethod]) (hasP v [bId])=0 then (call0 0 (getZ v [bId]),43)
 else if paramsOk (kindP (textAt v [bMethod]) (hasP v [bId])) (getZ v [bParams]) then (paramsP (kindP (textAt v [bMethod]) (hasP v [bId])) (getZ v [bId]) (getZ v [bParams]),0)
 else (call0 (kindP (textAt v [bMethod]) (hasP v [bId])) (getZ v [bId]),44)
def recP (ks:List (List UInt8)) (l:List Val):Val:=.mk 5 false 0 [] l ks
def strP (t:List UInt8):Val:=.mk 3 false 0 t [] []
def numP (n:Int):Val:=.mk 2 false n [] [] []
def atPlace (p:PlaceP):Val:=recP [bLine,bChar] [numP p.line,numP p.unit]
def editV (e:EditP):Val:=if e.whole then recP [bText] [strP e.text] else recP [bText,bRange] [strP e.text,recP [bStart,bEnd] [atPlace e.frm,atPlace e.til]]
def listV (l:List EditP):Val:=.mk 4 false 0 [] (l.map editV) []
def docV (c:CallP):Val :=
 recP ([bUri]++(if c.kind=4∨c.kind=5 then [bVersion] else [])++(if c.kind=4 then [bText] else []))
  ([strP c.name]++(if c.kind=4∨c.kind=5 then [numP c.version] else [])++(if c.kind=4 then [strP c.text] else []))
def toldV (c:CallP):Val :=
 if c.kind=9 then recP [bId] [c.other]
 else if c.kind=5 then recP [bDoc,bChanges] [docV c,listV c.changes]
 else if c.kind=7 then recP [bDoc,bPos] [docV c,atPlace c.place]
 else recP [bDoc] [docV c]
def messageV (c:CallP):Val :=
 recP ([bJsonrpc]++(if sortOf c.id=0 then [] else [bId])++[bMethod]++(if 3<c.kind then [bParams] else []))
  ([strP bTwo]++(if sortOf c.id=0 then [] else [c.id])++[strP (methodP c.kind)]++(if 3<c.kind then [toldV c] else []))
theorem getP_top (v:Val):getP v []=some v:=by cases v;simp only [getP]
theorem getP_hit (k:List UInt8) (ks:List (List UInt8)) (v:Val) (l:List Val) (p:List (List UInt8)):getP (recP (k :: ks) (v :: l)) (k :: p)=getP v p:=by
 simp [recP,getP]
theorem getP_skip {k k':List UInt8} (h:k'≠k) (ks:List (List UInt8)) (v:Val) (l:List Val) (p:List (List UInt8)):getP (recP (k' :: ks) (v :: l)) (k :: p)=getP (recP ks l) (k :: p):=by
 have h3:(k'==k)=false:=beq_eq_false_iff_ne.2 h
 simp only [recP,getP,if_true,List.idxOf_cons,h3,cond_false,List.length_cons,List.getElem?_cons_succ,Nat.add_lt_add_iff_right]
theorem getP_none (k:List UInt8) (p:List (List UInt8)):getP (recP [] []) (k :: p)=none:=by simp [recP,getP]
theorem getP_zero (k:List UInt8) (p:List (List UInt8)):getP zV (k :: p)=none:=by simp [zV,getP]
theorem place_back (ks:List (List UInt8)) (q:PlaceP) (v:Val) (h:getP v ks=some (atPlace q)):placeOk v ks=true∧placeAt v ks=q:=by
 have h1:hasP v ks=true:=by simp [hasP,h]
 have h2:getZ v ks=atPlace q:=by simp [getZ,h]
 have l1:getP (atPlace q) [bLine]=some (numP q.line):=by unfold atPlace;rw [getP_hit,getP_top]
 have l2:getP (atPlace q) [bChar]=some (numP q.unit):=by unfold atPlace;rw [getP_skip (by decide),getP_hit,getP_top]
 unfold placeOk placeAt
 rw [h1,h2]
 simp [isNum,hasP,getZ,numAt,l1,l2,numP,sortOf,numOf]
def editOk (e:EditP):Prop:=e.whole=true→e.frm=p0∧e.til=p0
theorem edit_back (e:EditP) (h:editOk e):changeOk (editV e)=true∧changeAt (editV e)=e:=by
 obtain ⟨frm,til,text,whole⟩:=e
 cases whole with
 | true =>
  obtain ⟨h1,h2⟩:=h rfl
  simp only at h1 h2
  subst h1;subst h2
  have l1:getP (editV ⟨p0,p0,text,true⟩) [bText]=some (strP text):=by unfold editV;rw [if_pos rfl,getP_hit,getP_top]
  have l2:getP (editV ⟨p0,p0,text,true⟩) [bRange]=none:=by unfold editV;rw [if_pos rfl,getP_skip (by decide),getP_none]
  simp [changeOk,changeAt,isText,hasP,getZ,textAt,l1,l2,strP,sortOf,textOf]
 | false =>
  have l1:getP (editV ⟨frm,til,text,false⟩) [bText]=some (strP text):=by unfold editV;rw [if_neg (by simp),getP_hit,getP_top]
  have l2:∀ p,getP (editV ⟨frm,til,text,false⟩) (bRange :: p)=getP (recP [bStart,bEnd] [atPlace frm,atPlace til]) p:=fun p=>by unfold editV;rw [if_neg (by simp),getP_skip (by decide),getP_hit]
  have l3:getP (editV ⟨frm,til,text,false⟩) [bRange,bStart]=some (atPlace frm):=by rw [l2,getP_hit,getP_top]
  have l4:getP (editV ⟨frm,til,text,false⟩) [bRange,bEnd]=some (atPlace til):=by rw [l2,getP_skip (by decide),getP_hit,getP_top]
  have l5:hasP (editV ⟨frm,til,text,false⟩) [bRange]=true:=by simp [hasP,l2,getP_top]
  obtain ⟨q1,q2⟩:=place_back _ _ _ l3
  obtain ⟨q3,q4⟩:=place_back _ _ _ l4
  unfold changeOk changeAt
  rw [if_pos l5,if_pos l5,q1,q2,q3,q4]
  simp [isText,hasP,getZ,textAt,l1,strP,sortOf,textOf]
theorem edits_back:∀ (l:List EditP),(∀ e∈l,editOk e)→(l.map editV).all changeOk=true∧(l.map editV).map changeAt=l
 | [],_=>⟨rfl,rfl⟩
 | e :: r,h=>by
  obtain ⟨h1,h2⟩:=edit_back e (h e (List.mem_cons_self ..))
  obtain ⟨h3,h4⟩:=edits_back r (fun x hx=>h x (List.mem_cons_of_mem _ hx))
  exact ⟨by simp [h1,h3],by simp [h2,h4]⟩
theorem changeAt_ok (v:Val):editOk (changeAt v):=by
 unfold editOk changeAt
 by_cases h:hasP v [bRange]=true
 ·rw [if_pos h];intro h2;cases h2
 ·rw [if_neg h];exact fun _=>⟨rfl,rfl⟩
structure Canon (c:CallP):Prop where
 low:1≤c.kind
 high:c.kind≤9
 req:reqP c.kind=true→idP c.id=true
 note:reqP c.kind=false→c.id=zV
 name:c.kind≤3∨c.kind=9→c.name=[]
 version:c.kind≠4→c.kind≠5→c.version=0
 text:c.kind≠4→c.text=[]
 changes:c.kind≠5→c.changes=[]
 place:c.kind≠7→c.place=p0
 other:c.kind≠9→c.other=zV
 cancel:c.kind=9→idP c.other=true
 edits:∀ e∈c.changes,editOk e
theorem text_back {v:Val} {ks:List (List UInt8)} {t:List UInt8} (h:getP v ks=some (strP t)):isText v ks=true∧textAt v ks=t:=by
 simp [isText,hasP,getZ,textAt,h,strP,sortOf,textOf]
theorem num_back {v:Val} {ks:List (List UInt8)} {n:Int} (h:getP v ks=some (numP n)):isNum v ks=true∧numAt v ks=n:=by
 simp [isNum,hasP,getZ,numAt,h,numP,sortOf,numOf]
theorem has_some {v u:Val} {ks:List (List UInt8)} (h:getP v ks=some u):hasP v ks=true∧getZ v ks=u:=by simp [hasP,getZ,h]
theorem has_none {v:Val} {ks:List (List UInt8)} (h:getP v ks=none):hasP v ks=false∧getZ v ks=zV:=by simp [hasP,getZ,h]
theorem idP_sort {v:Val} (h:idP v=true):¬ sortOf v=0:=by
 simp only [idP,Bool.or_eq_true,beq_iff_eq] at h
 omega
theorem message_parts (c:CallP) (h:Canon c) :
  getP (messageV c) [bJsonrpc]=some (strP bTwo)∧getP (messageV c) [bMethod]=some (strP (methodP c.kind)) ∧
  (reqP c.kind=true→getP (messageV c) [bId]=some c.id)∧(reqP c.kind=false→getP (messageV c) [bId]=none) ∧
  (3<c.kind→getP (messageV c) [bParams]=some (toldV c))∧(¬ 3<c.kind→getP (messageV c) [bParams]=none):=by
 have e1:bJsonrpc≠bId:=by decide
 have e2:bJsonrpc≠bMethod:=by decide
 have e3:bJsonrpc≠bParams:=by decide
 have e4:bId≠bMethod:=by decide
 have e5:bId≠bParams:=by decide
 have e6:bMethod≠bId:=by decide
 have e7:bMethod≠bParams:=by decide
 have e8:bParams≠bId:=by decide
 unfold messageV
 cases hr:reqP c.kind with
 | true =>
  have hs:=idP_sort (h.req hr)
  rw [if_neg hs,if_neg hs]
  by_cases h3:3<c.kind
  ·rw [if_pos h3,if_pos h3]
   simp only [List.cons_append,List.nil_append]
   refine ⟨by rw [getP_hit,getP_top],by rw [getP_skip e2,getP_skip e4,getP_hit,getP_top],fun _=>by rw [getP_skip e1,getP_hit,getP_top],(fun h=>by cases h),fun _=>by rw [getP_skip e3,getP_skip e5,getP_skip e7,getP_hit,getP_top],fun h=>absurd h3 h⟩
  ·rw [if_neg h3,if_neg h3]
   simp only [List.cons_append,List.nil_append]
   refine ⟨by rw [getP_hit,getP_top],by rw [getP_skip e2,getP_skip e4,getP_hit,getP_top],fun _=>by rw [getP_skip e1,getP_hit,getP_top],(fun h=>by cases h),fun h=>absurd h h3,fun _=>by rw [getP_skip e3,getP_skip e5,getP_skip e7,getP_none]⟩
 | false =>
  have hs:sortOf c.id=0:=by rw [h.note hr];rfl
  rw [if_pos hs,if_pos hs]
  by_cases h3:3<c.kind
  ·rw [if_pos h3,if_pos h3]
   simp only [List.cons_append,List.nil_append]
   refine ⟨by rw [getP_hit,getP_top],by rw [getP_skip e2,getP_hit,getP_top],(fun h=>by cases h),fun _=>by rw [getP_skip e1,getP_skip e6,getP_skip e8,getP_none],fun _=>by rw [getP_skip e3,getP_skip e7,getP_hit,getP_top],fun h=>absurd h3 h⟩
  ·rw [if_neg h3,if_neg h3]
   simp only [List.cons_append,List.nil_append]
   refine ⟨by rw [getP_hit,getP_top],by rw [getP_skip e2,getP_hit,getP_top],(fun h=>by cases h),fun _=>by rw [getP_skip e1,getP_skip e6,getP_none],fun h=>absurd h h3,fun _=>by rw [getP_skip e3,getP_skip e7,getP_none]⟩
theorem kind_back {k:Int} (h1:1≤k) (h9:k≤9):kindP (methodP k) (reqP k)=k:=by
 have:k=1∨k=2∨k=3∨k=4∨k=5∨k=6∨k=7∨k=8∨k=9:=by omega
 rcases this with rfl|rfl|rfl|rfl|rfl|rfl|rfl|rfl|rfl <;> decide
theorem told_rec {c:CallP} (_:3<c.kind):sortOf (toldV c)=5:=by
 unfold toldV
 split <;> (try split) <;> (try split) <;> rfl
theorem params_back (c:CallP) (h:Canon c) (h3:3<c.kind):paramsOk c.kind (toldV c)=true∧paramsP c.kind c.id (toldV c)=c:=by
 obtain ⟨k,id,name,version,text,changes,place,other⟩:=c
 obtain ⟨q1,q2,_,_,q5,q6,q7,q8,q9,q10,q11,q12⟩:=h
 simp only at q1 q2 q5 q6 q7 q8 q9 q10 q11 q12 h3
 have hk:k=4∨k=5∨k=6∨k=7∨k=8∨k=9:=by omega
 have d1:bUri≠bVersion:=by decide
 have d2:bUri≠bText:=by decide
 have d3:bVersion≠bText:=by decide
 have d4:bDoc≠bChanges:=by decide
 have d5:bDoc≠bPos:=by decide
 rcases hk with rfl|rfl|rfl|rfl|rfl|rfl
 ·-- Open
  have ho:=q10 (by decide);have hc:=q8 (by decide);have hp:=q9 (by decide)
  subst ho;subst hc;subst hp
  have l1:getP (toldV ⟨4,id,name,version,text,[],p0,zV⟩) [bDoc,bUri]=some (strP name):=by simp [toldV,docV,getP_hit,getP_top]
  have l2:getP (toldV ⟨4,id,name,version,text,[],p0,zV⟩) [bDoc,bVersion]=some (numP version):=by simp [toldV,docV,getP_hit,getP_top,getP_skip d1]
  have l3:getP (toldV ⟨4,id,name,version,text,[],p0,zV⟩) [bDoc,bText]=some (strP text):=by simp [toldV,docV,getP_hit,getP_top,getP_skip d2,getP_skip d3]
  obtain ⟨a1,a2⟩:=text_back l1
  obtain ⟨a3,a4⟩:=num_back l2
  obtain ⟨a5,a6⟩:=text_back l3
  simp [paramsOk,paramsP,a1,a2,a3,a4,a5,a6]
 ·-- Change
  have ho:=q10 (by decide);have ht:=q7 (by decide);have hp:=q9 (by decide)
  subst ho;subst ht;subst hp
  have l1:getP (toldV ⟨5,id,name,version,[],changes,p0,zV⟩) [bDoc,bUri]=some (strP name):=by simp [toldV,docV,getP_hit,getP_top]
  have l2:getP (toldV ⟨5,id,name,version,[],changes,p0,zV⟩) [bDoc,bVersion]=some (numP version):=by simp [toldV,docV,getP_hit,getP_top,getP_skip d1]
  have l3:getP (toldV ⟨5,id,name,version,[],changes,p0,zV⟩) [bChanges]=some (listV changes):=by simp [toldV,docV,getP_hit,getP_top,getP_skip d4]
  obtain ⟨a1,a2⟩:=text_back l1
  obtain ⟨a3,a4⟩:=num_back l2
  obtain ⟨a5,a6⟩:=has_some l3
  obtain ⟨a7,a8⟩:=edits_back changes q12
  have a9:changesOk (toldV ⟨5,id,name,version,[],changes,p0,zV⟩)=true:=by
   unfold changesOk
   rw [a5,a6]
   simpa [listV,sortOf,listOf] using a7
  have a10:changesAt (toldV ⟨5,id,name,version,[],changes,p0,zV⟩)=changes:=by
   unfold changesAt
   rw [a6]
   exact a8
  simp [paramsOk,paramsP,a1,a2,a3,a4,a9,a10]
 ·-- Close
  have ho:=q10 (by decide);have hc:=q8 (by decide);have hp:=q9 (by decide);have ht:=q7 (by decide);have hv:=q6 (by decide) (by decide)
  subst ho;subst hc;subst hp;subst ht;subst hv
  have l1:getP (toldV ⟨6,id,name,0,[],[],p0,zV⟩) [bDoc,bUri]=some (strP name):=by simp [toldV,docV,getP_hit,getP_top]
  obtain ⟨a1,a2⟩:=text_back l1
  simp [paramsOk,paramsP,a1,a2]
 ·-- Hover
  have ho:=q10 (by decide);have hc:=q8 (by decide);have ht:=q7 (by decide);have hv:=q6 (by decide) (by decide)
  subst ho;subst hc;subst ht;subst hv
  have l1:getP (toldV ⟨7,id,name,0,[],[],place,zV⟩) [bDoc,bUri]=some (strP name):=by simp [toldV,docV,getP_hit,getP_top]
  have l2:getP (toldV ⟨7,id,name,0,[],[],place,zV⟩) [bPos]=some (atPlace place):=by simp [toldV,docV,getP_hit,getP_top,getP_skip d5]
  obtain ⟨a1,a2⟩:=text_back l1
  obtain ⟨a3,a4⟩:=place_back _ _ _ l2
  simp [paramsOk,paramsP,a1,a2,a3,a4]
 ·-- Pull
  have ho:=q10 (by decide);have hc:=q8 (by decide);have hp:=q9 (by decide);have ht:=q7 (by decide);have hv:=q6 (by decide) (by decide)
  subst ho;subst hc;subst hp;subst ht;subst hv
  have l1:getP (toldV ⟨8,id,name,0,[],[],p0,zV⟩) [bDoc,bUri]=some (strP name):=by simp [toldV,docV,getP_hit,getP_top]
  obtain ⟨a1,a2⟩:=text_back l1
  simp [paramsOk,paramsP,a1,a2]
 ·-- Cancel
  have hn:=q5 (.inr rfl);have hc:=q8 (by decide);have hp:=q9 (by decide);have ht:=q7 (by decide);have hv:=q6 (by decide) (by decide);have hi:=q11 rfl
  subst hn;subst hc;subst hp;subst ht;subst hv
  have l1:getP (toldV ⟨9,id,[],0,[],[],p0,other⟩) [bId]=some other:=by simp [toldV,getP_hit,getP_top]
  obtain ⟨a1,a2⟩:=has_some l1
  simp [paramsOk,paramsP,call0,a1,a2,hi]
theorem message_back (c:CallP) (h:Canon c):readM (messageV c)=(c,0):=by
 obtain ⟨m1,m2,m3,m4,m5,m6⟩:=message_parts c h
 obtain ⟨a1,a2⟩:=text_back m1
 obtain ⟨a3,a4⟩:=text_back m2
 have hkb:=kind_back h.low h.high
 have hk0:¬ c.kind=0:=by have:=h.low;omega
 have hid:hasP (messageV c) [bId]=reqP c.kind∧getZ (messageV c) [bId]=c.id∧(hasP (messageV c) [bId]&&!idP (getZ (messageV c) [bId]))=false:=by
  cases hr:reqP c.kind with
  | true =>
   obtain ⟨b1,b2⟩:=has_some (m3 hr)
   exact ⟨b1,b2,by rw [b2,h.req hr];simp⟩
  | false =>
   obtain ⟨b1,b2⟩:=has_none (m4 hr)
   exact ⟨b1,by rw [b2,h.note hr],by rw [b1];rfl⟩
 obtain ⟨i1,i2,i3⟩:=hid
 have hpr:(hasP (messageV c) [bParams]&&!(sortOf (getZ (messageV c) [bParams])==5)&&!(sortOf (getZ (messageV c) [bParams])==4))=false ∧
   paramsOk c.kind (getZ (messageV c) [bParams])=true∧paramsP c.kind c.id (getZ (messageV c) [bParams])=c:=by
  by_cases h3:3<c.kind
  ·obtain ⟨b1,b2⟩:=has_some (m5 h3)
   rw [b2,told_rec h3]
   exact ⟨by simp,params_back c h h3⟩
  ·obtain ⟨b1,b2⟩:=has_none (m6 h3)
   rw [b1]
   refine ⟨rfl,by unfold paramsOk;rw [if_pos (by omega)],?_⟩
   unfold paramsP
   rw [if_pos (by omega)]
   obtain ⟨k,id,name,version,text,changes,place,other⟩:=c
   obtain ⟨q1,q2,_,_,q5,q6,q7,q8,q9,q10,q11,q12⟩:=h
   simp only at q1 q2 q5 q6 q7 q8 q9 q10 h3
   simp only [call0]
   rw [q5 (.inl (by omega)),q6 (by omega) (by omega),q7 (by omega),q8 (by omega),q9 (by omega),q10 (by omega)]
 obtain ⟨j1,j2,j3⟩:=hpr
 have hw:wrongP (messageV c)=false:=by
  unfold wrongP
  rw [a1,a2,a3,i3,j1]
  simp
 unfold readM
 rw [hw,if_neg (by simp),a4,i1,hkb,if_neg hk0,j2,if_pos rfl,i2,j3]
theorem kind_range (name:List UInt8) (has:Bool) (h:kindP name has≠0):1≤kindP name has∧kindP name has≤9∧reqP (kindP name has)=has:=by
 unfold kindP at h ⊢
 by_cases h1:name=bInit∧has=true
 ·rw [if_pos h1,h1.2];decide
 rw [if_neg h1] at h ⊢
 by_cases h2:name=bShut∧has=true
 ·rw [if_pos h2,h2.2];decide
 rw [if_neg h2] at h ⊢
 by_cases h3:name=bExit∧has=false
 ·rw [if_pos h3,h3.2];decide
 rw [if_neg h3] at h ⊢
 by_cases h4:name=bOpen∧has=false
 ·rw [if_pos h4,h4.2];decide
 rw [if_neg h4] at h ⊢
 by_cases h5:name=bChange∧has=false
 ·rw [if_pos h5,h5.2];decide
 rw [if_neg h5] at h ⊢
 by_cases h6:name=bClose∧has=false
 ·rw [if_pos h6,h6.2];decide
 rw [if_neg h6] at h ⊢
 by_cases h7:name=bHover∧has=true
 ·rw [if_pos h7,h7.2];decide
 rw [if_neg h7] at h ⊢
 by_cases h8:name=bPull∧has=true
 ·rw [if_pos h8,h8.2];decide
 rw [if_neg h8] at h ⊢
 by_cases h9:name=bCancel∧has=false
 ·rw [if_pos h9,h9.2];decide
 rw [if_neg h9] at h
 exact absurd rfl h
theorem read_canon (v:Val) (d:CallP) (h:readM v=(d,0)):Canon d:=by
 unfold readM at h
 by_cases hw:wrongP v=true
 ·rw [if_pos hw] at h;injection h with _ h;cases h
 rw [if_neg hw] at h
 by_cases hk:kindP (textAt v [bMethod]) (hasP v [bId])=0
 ·rw [if_pos hk] at h;injection h with _ h;cases h
 rw [if_neg hk] at h
 by_cases hp:paramsOk (kindP (textAt v [bMethod]) (hasP v [bId])) (getZ v [bParams])=true
 ·rw [if_pos hp] at h
  injection h with h _
  obtain ⟨r1,r2,r3⟩:=kind_range _ _ hk
  have hid:hasP v [bId]=true→idP (getZ v [bId])=true:=fun hh=>by
   have hw2:wrongP v=false:=by simpa using hw
   simp only [wrongP,Bool.or_eq_false_iff,hh,Bool.true_and,Bool.not_eq_false'] at hw2
   exact hw2.1.2
  have hno:hasP v [bId]=false→getZ v [bId]=zV:=fun hh=>by
   unfold hasP at hh
   unfold getZ
   cases hg:getP v [bId] with
   | none=>rfl
   | some u=>rw [hg] at hh;cases hh
  generalize kindP (textAt v [bMethod]) (hasP v [bId])=k at h r1 r2 r3 hp hk
  generalize getZ v [bId]=i at h hid hno
  generalize getZ v [bParams]=p at h hp
  subst h
  by_cases h3:k≤3
  ·unfold paramsP
   rw [if_pos h3]
   refine ⟨r1,r2,fun hr=>hid (by rw [← r3];exact hr),fun hr=>hno (by rw [← r3];exact hr),fun _=>rfl,fun _ _=>rfl,fun _=>rfl,fun _=>rfl,fun _=>rfl,fun _=>rfl,fun h9=>?_,fun e he=>?_⟩
   ·have h9:k=9:=h9
    omega
   ·cases he
  ·by_cases h9:k=9
   ·subst h9
    unfold paramsP
    rw [if_neg h3,if_pos rfl]
    unfold paramsOk at hp
    rw [if_neg h3,if_pos rfl,Bool.and_eq_true] at hp
    refine ⟨r1,r2,fun hr=>hid (by rw [← r3];exact hr),fun hr=>hno (by rw [← r3];exact hr),fun _=>rfl,fun _ _=>rfl,fun _=>rfl,fun _=>rfl,fun _=>rfl,fun h=>absurd rfl h,fun _=>hp.2,fun e he=>?_⟩
    cases he
   ·unfold paramsP
    rw [if_neg h3,if_neg h9]
    refine ⟨r1,r2,fun hr=>hid (by rw [← r3];exact hr),fun hr=>hno (by rw [← r3];exact hr),fun h=>?_,fun h4 h5=>?_,fun h4=>?_,fun h5=>?_,fun h7=>?_,fun _=>rfl,fun h=>absurd h h9,fun e he=>?_⟩
    ·exact absurd h (by show ¬ (k≤3∨k=9);omega)
    ·have h4:k≠4:=h4
     have h5:k≠5:=h5
     show (if k=4∨k=5 then _ else (0:Int))=0
     rw [if_neg (by omega)]
    ·have h4:k≠4:=h4
     show (if k=4 then _ else ([]:List UInt8))=[]
     rw [if_neg h4]
    ·have h5:k≠5:=h5
     show (if k=5 then _ else ([]:List EditP))=[]
     rw [if_neg h5]
    ·have h7:k≠7:=h7
     show (if k=7 then _ else p0)=p0
     rw [if_neg h7]
    ·have he:e∈(if k=5 then changesAt p else []):=he
     by_cases h5:k=5
     ·rw [if_pos h5] at he
      obtain ⟨x,_,rfl⟩:=List.mem_map.1 he
      exact changeAt_ok x
     ·rw [if_neg h5] at he;cases he
 ·rw [if_neg hp] at h;injection h with _ h;cases h
end Go.Proofs.YtpbnhnilfpoljaaGreatDoor.M
