/- What the claim needs of the texts VGetA. -/
import Derived.Test.YtpbnhnilfpoljaaGreatDoorRB10
import Derived.Test.YtpbnhnilfpoljaaGreatDoorRB11
import Derived.Deep.RegionLaw
import Derived.Test.YtpbnhnilfpoljaaGreatDoorRB12
namespace Go.Proofs.YtpbnhnilfpoljaaGreatDoor.V
open Go.RowKit
open Go.Lib
structure CpSt (so:Int) (on:Bool) (n:Int) (t:List UInt8) (l:List Val) (ks:List (List UInt8)) (kv:Value) (g ln cap i:Nat) (xs ys:List Value) (w wr:World):Prop where
 below:Below w.heap.size w wr
 size:w.heap.size+2≤wr.heap.size
 gge:w.heap.size+2≤g
 box:wr.heap[w.heap.size]?=some (.cells #[.int .i64 so,.bool on,.int .i64 n,.string ⟨t.toArray⟩,.slice (some ⟨g,0,none⟩) ln cap,kv] 36 (0,0))
 res:wr.heap[w.heap.size+1]?=some (.cells #[.int .i64 0,.bool false,.int .i64 0,.string ⟨#[]⟩,.slice none 0 0,.slice none 0 0] 36 (0,0))
 row:∃ cur:Array Value,wr.heap[g]?=some (.cells cur 36 (0,0))∧∀ (j:Nat) (u:Value),(ys++xs.drop (6*i))[j]?=some u→cur[j]?=some u
 done:ListIn wr (fun b=>w.heap.size+2≤b∧b≠g) (l.take i) ys
 keys:KeysIn wr (fun b=>w.heap.size+2≤b∧b≠g) ks kv
theorem cp_row {g i:Nat} {u0 u1 u2 u3 u4 u5:Value} {xs ys:List Value} {cur:Array Value} {W:World} (hg:W.heap[g]?=some (.cells cur 36 (0,0))) (hy:ys.length=6*i) (hx:6*i+6≤xs.length)
  (h:∀ (j:Nat) (u:Value),(ys++xs.drop (6*i))[j]?=some u→cur[j]?=some u) :
  ∃ cur':Array Value,((((((W.setCell ⟨g,i*6,none⟩ u0).setCell ⟨g,i*6+1,none⟩ u1).setCell ⟨g,i*6+2,none⟩ u2).setCell ⟨g,i*6+3,none⟩ u3).setCell ⟨g,i*6+4,none⟩ u4).setCell ⟨g,i*6+5,none⟩ u5).heap[g]?=some (.cells cur' 36 (0,0)) ∧
   ∀ (j:Nat) (u:Value),((ys++[u0,u1,u2,u3,u4,u5])++xs.drop (6*(i+1)))[j]?=some u→cur'[j]?=some u:=by
 refine ⟨_,Go.Joins.block_setCell (Go.Joins.block_setCell (Go.Joins.block_setCell (Go.Joins.block_setCell (Go.Joins.block_setCell (Go.Joins.block_setCell hg u0) u1) u2) u3) u4) u5,fun j u hj=>?_⟩
 have hin:∀ j,j<6*i+6→j<cur.size:=fun j hj=>by
  have h2:j<(ys++xs.drop (6*i)).length:=by simp;omega
  have:=h j _ (List.getElem?_eq_getElem h2)
  exact (Array.getElem?_eq_some_iff.1 this).1
 simp only [Array.getElem?_setIfInBounds,Array.size_setIfInBounds]
 by_cases h1:j<6*i
 ·rw [if_neg (by omega),if_neg (by omega),if_neg (by omega),if_neg (by omega),if_neg (by omega),if_neg (by omega)]
  refine h j u ?_
  rw [List.append_assoc,List.getElem?_append_left (by omega)] at hj
  rw [List.getElem?_append_left (by omega)]
  exact hj
 ·by_cases h2:j<6*i+6
  ·have hjs:=hin j h2
   rw [List.getElem?_append_left (by simp;omega),List.getElem?_append_right (by omega),hy] at hj
   obtain ⟨k,rfl⟩:∃ k,j=6*i+k:=⟨j - 6*i,by omega⟩
   rw [Nat.add_sub_cancel_left] at hj
   have hk:k<6:=by omega
   have hk6:k=0∨k=1∨k=2∨k=3∨k=4∨k=5:=by omega
   rcases hk6 with rfl|rfl|rfl|rfl|rfl|rfl
   ·rw [if_neg (by omega),if_neg (by omega),if_neg (by omega),if_neg (by omega),if_neg (by omega),if_pos (by omega),if_pos (by omega)];simpa using hj
   ·rw [if_neg (by omega),if_neg (by omega),if_neg (by omega),if_neg (by omega),if_pos (by omega),if_pos (by omega)];simpa using hj
   ·rw [if_neg (by omega),if_neg (by omega),if_neg (by omega),if_pos (by omega),if_pos (by omega)];simpa using hj
   ·rw [if_neg (by omega),if_neg (by omega),if_pos (by omega),if_pos (by omega)];simpa using hj
   ·rw [if_neg (by omega),if_pos (by omega),if_pos (by omega)];simpa using hj
   ·rw [if_pos (by omega),if_pos (by omega)];simpa using hj
  ·rw [if_neg (by omega),if_neg (by omega),if_neg (by omega),if_neg (by omega),if_neg (by omega),if_neg (by omega)]
   refine h j u ?_
   rw [List.getElem?_append_right (by simp;omega)] at hj
   rw [List.getElem?_append_right (by omega)]
   rw [List.getElem?_drop] at hj ⊢
   simp only [List.length_append,List.length_cons,List.length_nil] at hj
   rw [← hj]
   congr 1
   omega
theorem cp_far {g o k:Nat} {W:World} (h:k≠g) (u0 u1 u2 u3 u4 u5:Value) :
  ((((((W.setCell ⟨g,o,none⟩ u0).setCell ⟨g,o+1,none⟩ u1).setCell ⟨g,o+2,none⟩ u2).setCell ⟨g,o+3,none⟩ u3).setCell ⟨g,o+4,none⟩ u4).setCell ⟨g,o+5,none⟩ u5).heap[k]?=W.heap[k]?:=by
 rw [Below.heap_setCell _ _ _ _ h,Below.heap_setCell _ _ _ _ h,Below.heap_setCell _ _ _ _ h,Below.heap_setCell _ _ _ _ h,Below.heap_setCell _ _ _ _ h,Below.heap_setCell _ _ _ _ h]
theorem ListIn.split {W:World} {R:Nat→Prop}:∀ {l:List Val} {xs:List Value} (i:Nat),ListIn W R l xs→(hi:i<l.length)→∃ lv kv,xs.drop (6*i)=six' l[i] lv kv++xs.drop (6*(i+1))∧ValIn W R l[i] lv kv
 | [],_,_,_,hi=>absurd hi (Nat.not_lt_zero _)
 | v :: r,xs,0,h,_=>by
  obtain ⟨lv,kv,rest,rfl,hv,_⟩:=h
  refine ⟨lv,kv,?_,hv⟩
  simp [List.drop_append,six_length]
 | v :: r,xs,i+1,h,hi=>by
  obtain ⟨lv,kv,rest,rfl,_,hr⟩:=h
  obtain ⟨lv',kv',h1,h2⟩:=ListIn.split i hr (by simpa using hi)
  refine ⟨lv',kv',?_,h2⟩
  have e1:(six' v lv kv++rest).drop (6*(i+1))=rest.drop (6*i):=by
   rw [List.drop_append,List.drop_eq_nil_of_le (by rw [six_length];omega),six_length,List.nil_append]
   congr 1
  have e2:(six' v lv kv++rest).drop (6*(i+1+1))=rest.drop (6*(i+1)):=by
   rw [List.drop_append,List.drop_eq_nil_of_le (by rw [six_length];omega),six_length,List.nil_append]
   congr 1
  rw [e1,e2,h1]
  rfl
theorem cp_step {so n:Int} {on:Bool} {t:List UInt8} {l:List Val} {ks:List (List UInt8)} {kv:Value} {g ln cap i:Nat} {xs ys:List Value} {w wr w2:World} {zo:Obj}
  {so' n':Int} {on':Bool} {t':List UInt8} {l':List Val} {ks':List (List UInt8)} {lv' kv':Value}
  (hst:CpSt so on n t l ks kv g ln cap i xs ys w wr) (hi:i<l.length) (he:l[i]=.mk so' on' n' t' l' ks') (hx:6*i+6≤xs.length)
  (hb:Below (wr.alloc zo).heap.size (wr.alloc zo) w2) (hv:ValIn w2 (fun b=>(wr.alloc zo).heap.size≤b) (.mk so' on' n' t' l' ks') lv' kv') :
  CpSt so on n t l ks kv g ln cap (i+1) xs (ys++six' (.mk so' on' n' t' l' ks') lv' kv') w
   ((((((w2.setCell ⟨g,i*6,none⟩ (.int .i64 so')).setCell ⟨g,i*6+1,none⟩ (.bool on')).setCell ⟨g,i*6+2,none⟩ (.int .i64 n')).setCell ⟨g,i*6+3,none⟩ (.string ⟨t'.toArray⟩)).setCell ⟨g,i*6+4,none⟩ lv').setCell ⟨g,i*6+5,none⟩ kv'):=by
 have hza:(wr.alloc zo).heap.size=wr.heap.size+1:=by simp
 rw [hza] at hb hv
 have hz2:=hb.size
 have hz0:=hst.size
 have hgg:=hst.gge
 obtain ⟨cur,hcur,hrow⟩:=hst.row
 have hglt:g<wr.heap.size:=(Array.getElem?_eq_some_iff.1 hcur).1
 have hbr:Below wr.heap.size wr w2:=((Below.refl _ _).alloc (Nat.le_refl _) zo).trans (hb.mono (by omega))
 have hyl:ys.length=6*i:=by rw [hst.done.length,List.length_take,Nat.min_eq_left (by omega)]
 obtain ⟨cur',hc1,hc2⟩:=cp_row (u0:=.int .i64 so') (u1:=.bool on') (u2:=.int .i64 n') (u3:=.string ⟨t'.toArray⟩) (u4:=lv') (u5:=kv') ((hbr.block g hglt).trans hcur) hyl hx hrow
 have far:∀ k,k≠g→((((((w2.setCell ⟨g,i*6,none⟩ (.int .i64 so')).setCell ⟨g,i*6+1,none⟩ (.bool on')).setCell ⟨g,i*6+2,none⟩ (.int .i64 n')).setCell ⟨g,i*6+3,none⟩ (.string ⟨t'.toArray⟩)).setCell ⟨g,i*6+4,none⟩ lv').setCell ⟨g,i*6+5,none⟩ kv').heap[k]?=w2.heap[k]?:=fun k hk=>cp_far hk _ _ _ _ _ _
 have hbw:=hst.below.trans (hbr.mono hst.below.size)
 refine ⟨?_,?_,hgg,?_,?_,⟨cur',hc1,hc2⟩,?_,?_⟩
 ·exact (((((hbw.setCell (p:=⟨g,i*6,none⟩) (by show _≤g;omega) _).setCell (p:=⟨g,i*6+1,none⟩) (by show _≤g;omega) _).setCell (p:=⟨g,i*6+2,none⟩) (by show _≤g;omega) _).setCell (p:=⟨g,i*6+3,none⟩) (by show _≤g;omega) _).setCell (p:=⟨g,i*6+4,none⟩) (by show _≤g;omega) _).setCell (p:=⟨g,i*6+5,none⟩) (by show _≤g;omega) _
 ·simp only [sc_size];omega
 ·exact (far _ (by omega)).trans ((hbr.block _ (by omega)).trans hst.box)
 ·exact (far _ (by omega)).trans ((hbr.block _ (by omega)).trans hst.res)
 ·rw [List.take_succ_eq_append_getElem hi,he]
  refine ListIn.snoc ?_ ?_
  ·exact ListIn.later (fun b hb' hlt=>(far b hb'.2).trans (hbr.block b hlt)) (fun _ h=>h) _ _ hst.done
  ·exact ValIn.later (R:=fun b=>wr.heap.size+1≤b) (fun b hb' _=>far b (by omega)) (fun b hb'=>⟨by omega,by omega⟩) _ _ _ hv
 ·exact hst.keys.later (fun b hb' hlt=>(far b hb'.2).trans (hbr.block b hlt)) (fun _ h=>h)
theorem cell_row {W:World} {g:Nat} {cur:Array Value} {t:TypeId} (h:W.heap[g]?=some (.cells cur t (0,0))) (j:Nat):W.cell? ⟨g,j,none⟩=cur[j]?∧W.frozen? ⟨g,j,none⟩=false:=by
 constructor
 ·simp [World.cell?,h]
 ·simp [World.frozen?,h]
def CopyC (v:Val):Prop:=∀ (lv kv:Value) (R:Nat→Prop) (w:World),ValIn w R v lv kv→wt v≤1099511627776 →
 Calls Tryz.prog 90 #[arg v lv kv] w fun e w'=>∃ lv' kv',e=.returned (arg v lv' kv')∧ValIn w' (fun g=>w.heap.size≤g) v lv' kv'∧Below w.heap.size w w'
set_option maxRecDepth 100000 in
set_option maxHeartbeats 8000000 in
theorem copy_v:∀ v,CopyC v:=Val.ind fun so on n t l ks IH lv kv R w hv0 hw=>by
 have hw2:=hw
 simp only [wt] at hw2
 have hwl:wtL l≤1099511627776:=by omega
 have hkl:ks.length≤1099511627776:=Nat.le_trans (wt_keys ks) (by omega)
 by_cases hl0:l=[]
 ·subst hl0;exact copy_leaf so on n t ks lv kv R w hv0 hkl
 have hv:ValIn w (fun g=>g<w.heap.size) (.mk so on n t l ks) lv kv:=(ValIn.bound _ _ _ hv0).later (fun _ _ _=>rfl) (fun _ h=>h.2) _ _ _
 have hv':=hv
 obtain ⟨⟨a1,c1,rfl,_⟩,hk⟩:=hv'
 have hk':=hk
 obtain ⟨a2,c2,rfl,_⟩:=hk'
 have hlb:l.length≤1099511627776:=Nat.le_trans (wtL_length l) hwl
 have hlp:0<l.length:=by cases l with|nil=>exact absurd rfl hl0|cons _ _=>simp
 have HIH:=Lib.hid IH
 have HWM:=Lib.hid (fun v (h:v∈l)=>Nat.le_trans (wtL_mem h) hwl)
 have cK:=fun W (hb:Below w.heap.size w W)=>clone_keys ks (.slice a2 ks.length c2) _ W (hk.later (fun b _ hb'=>hb.block b hb') (fun _ h=>h)) hkl
 have cL:=fun W (hb:Below w.heap.size w W)=>clone_values l a1 c1 _ W (parts_of (hv.later (fun b _ hb'=>hb.block b hb') (fun _ h=>h) _ _ _)) hlb
 obtain ⟨ln,hln⟩:∃ k,l.length=k:=⟨_,rfl⟩
 obtain ⟨kn,hkn⟩:∃ k,ks.length=k:=⟨_,rfl⟩
 have HLN:=Lib.hid hln
 have HKN:=Lib.hid hkn
 simp only [hln] at cL
 simp only [hkn] at cK
 have HL:=Lib.hid cL
 rw [hln] at hlb hlp
 clear cL hk hv hv0 hw hw2 hwl hkl hl0 IH
 simp only [arg,six',six,strCell]
 rw [hln,hkn]
 clear hln hkn
 go_enter Tryz.func90,Tryz.ntmps90
 go_wp2_with fail
 obtain ⟨t1,t2,tb,tz⟩:=two w (.cells #[Value.int IntKind.i64 so,Value.bool on,Value.int IntKind.i64 n,Value.string { data:=t.toArray },Value.slice a1 ln c1,Value.slice a2 kn c2] 36) (.cells #[.int .i64 0,.bool false,.int .i64 0,.string ⟨#[]⟩,.slice none 0 0,.slice none 0 0] 36)
 refine (cK _ tb).mono ?_
 rintro e w1 ⟨kv1,rfl,hk1,hb1⟩
 have hx:=(hb1.block w.heap.size (by omega)).trans t1
 have hy:=(hb1.block (w.heap.size+1) (by omega)).trans t2
 have HB1:=Lib.hid (tb.trans (hb1.mono (by omega)))
 have hz1:=hb1.size
 rw [tz] at hz1 hk1
 have hk1':=hk1
 rw [← HKN.out] at hk1'
 have HK1:=Lib.hid (keys_own hk1').within
 obtain ⟨ka,kc,rfl⟩:=slice_form hk1
 obtain ⟨⟨k0,k1,k2,k3,k4,k5⟩,kf⟩:=cells_six hx
 clear cK hb1 tb tz t1 t2 hk1 hk1'
 go_wp2_with fail
 have hb2:=HB1.out.setCell (p:=⟨w.heap.size,5,none⟩) (Nat.le_refl _) (.slice ka kn kc)
 refine (HL.out _ hb2).mono ?_
 rintro e w2 ⟨lv1,xs,rfl,hli,hl1,hb3⟩
 have hz3:=hb3.size
 have HB2:=Lib.hid (hb2.trans (hb3.mono (by simp;omega)))
 have hx2:=(hb3.block w.heap.size (by simp;omega)).trans (Go.Joins.block_setCell (i:=5) hx (.slice ka kn kc))
 have hy2:=(hb3.block (w.heap.size+1) (by simp;omega)).trans ((Below.heap_setCell _ _ _ _ (by simp)).trans hy)
 have HK2:=Lib.hid (HK1.out.later (W':=w2) (R':=fun g=>w.heap.size+2≤g∧g<w1.heap.size) (fun g hg hlt=>(hb3.block g (by simpa using hlt)).trans (Below.heap_setCell _ _ _ _ (by simp;omega))) (fun _ h=>h))
 rw [sc_size] at hz3 hl1
 have HXL:=Lib.hid (show xs.length=6*ln by rw [ListIn.length hli,HLN.out])
 have HLI:=Lib.hid (ListIn.later (W':=w) (R':=fun g=>g<w.heap.size) (fun b hb' _=>(hb2.block b hb').symm) (fun _ h=>h) _ _ hli)
 obtain ⟨g,cap,cur,rfl,hg,hgg,hle,hcap,hsz,htake⟩:=hl1.2.resolve_left (fun h=>by omega)
 clear hb2 hx hy k0 k1 k2 k3 k4 k5 kf HK1 hl1 hb3 HL hli
 obtain ⟨⟨k0,k1,k2,k3,k4,k5⟩,kf⟩:=cells_six hx2
 have HST:Hid (CpSt so on n t l ks (.slice ka kn kc) g ln cap 0 xs [] w (w2.setCell ⟨w.heap.size,4,none⟩ (.slice (some ⟨g,0,none⟩) ln cap))):=Lib.hid ⟨HB2.out.setCell (p:=⟨w.heap.size,4,none⟩) (Nat.le_refl _) _,by rw [sc_size];omega,by omega,Go.Joins.block_setCell (i:=4) hx2 _,(Below.heap_setCell _ _ _ _ (by simp)).trans hy2,
  ⟨cur,(Below.heap_setCell _ _ _ _ (by show g≠w.heap.size;omega)).trans hgg,fun j u hj=>by
   rw [Nat.mul_zero,List.drop_zero,List.nil_append,← htake,List.getElem?_take] at hj
   split at hj
   ·simpa using hj
   ·cases hj⟩,rfl,
  HK2.out.later (fun b hb _=>Below.heap_setCell _ _ _ _ (by show b≠w.heap.size;omega)) (fun b hb=>⟨hb.1,by omega⟩)⟩
 clear hx2 hy2 HK2 HB2 hgg htake hsz hle hcap
 go_wp2_with fail
 obtain ⟨w4,hw4⟩:∃ w4,w2.setCell ⟨w.heap.size,4,none⟩ (.slice (some ⟨g,0,none⟩) ln cap)=w4:=⟨_,rfl⟩
 rw [hw4] at HST ⊢
 clear hw4 k0 k1 k2 k3 k4 k5 kf
 go_loopw [16] (fun iv wr=>∃ (i:Nat) (ys:List Value),iv=.int .i64 i∧i≤ln∧Hid (CpSt so on n t l ks (.slice ka kn kc) g ln cap i xs ys w wr) ) (fun iv _=>ln - (Go.RowKit.intOf iv).toNat)
 case atStart=>exact ⟨0,[],rfl,by omega,HST⟩
 case round =>
  obtain ⟨i,ys,rfl,hi,HI⟩:=hrel
  obtain ⟨⟨k0,k1,k2,k3,k4,k5⟩,kf⟩:=cells_six HI.out.box
  have hzr:=HI.out.size
  by_cases hlt:i<ln
  ·have hll:i<l.length:=by rw [HLN.out];exact hlt
   obtain ⟨lvi,kvi,hsp,hvi⟩:=ListIn.split i HLI.out hll
   obtain ⟨so',on',n',t',l',ks',he⟩:∃ so' on' n' t' l' ks',l[i]=.mk so' on' n' t' l' ks':=by
    cases l[i] with|mk a b c d e f=>exact ⟨a,b,c,d,e,f,rfl⟩
   rw [he] at hsp hvi
   have hvi':=hvi
   obtain ⟨⟨b1,d1,rfl,_⟩,⟨b2,d2,rfl,_⟩⟩:=hvi'
   obtain ⟨cur2,hcur,hrow⟩:=HI.out.row
   have hyl:ys.length=6*i:=by rw [HI.out.done.length,List.length_take,Nat.min_eq_left (by omega)]
   have hcell:∀ (k:Nat) u,(six' (.mk so' on' n' t' l' ks') (.slice b1 l'.length d1) (.slice b2 ks'.length d2))[k]?=some u→wr.cell? ⟨g,i*6+k,none⟩=some u:=fun k u hk=>by
    have hk6:k<6:=by
     have:=(List.getElem?_eq_some_iff.1 hk).1
     rw [six_length] at this
     exact this
    rw [(cell_row hcur _).1]
    refine hrow _ _ ?_
    rw [List.getElem?_append_right (by omega),hsp,show i*6+k - ys.length=k by omega,List.getElem?_append_left (by rw [six_length];exact hk6)]
    exact hk
   have p0:wr.cell? ⟨g,i*6,none⟩=some (.int .i64 so'):=hcell 0 _ rfl
   have p1:wr.cell? ⟨g,i*6+1,none⟩=some (.bool on'):=hcell 1 _ rfl
   have p2:wr.cell? ⟨g,i*6+2,none⟩=some (.int .i64 n'):=hcell 2 _ rfl
   have p3:wr.cell? ⟨g,i*6+3,none⟩=some (.string ⟨t'.toArray⟩):=hcell 3 _ rfl
   have p4:wr.cell? ⟨g,i*6+4,none⟩=some (.slice b1 l'.length d1):=hcell 4 _ rfl
   have p5:wr.cell? ⟨g,i*6+5,none⟩=some (.slice b2 ks'.length d2):=hcell 5 _ rfl
   have hglt:g<wr.heap.size:=(Array.getElem?_eq_some_iff.1 hcur).1
   obtain ⟨W1,hW1⟩:∃ W1,wr.alloc (.cells #[.int .i64 so',.bool on',.int .i64 n',.string ⟨t'.toArray⟩,.slice b1 l'.length d1,.slice b2 ks'.length d2] 36)=W1:=⟨_,rfl⟩
   have hbW1:Below wr.heap.size wr W1:=by rw [← hW1];exact (Below.refl _ _).alloc (Nat.le_refl _) _
   have hzW1:W1.heap.size=wr.heap.size+1:=by rw [← hW1];simp
   have hnew:W1.heap[wr.heap.size]?=some (.cells #[.int .i64 so',.bool on',.int .i64 n',.string ⟨t'.toArray⟩,.slice b1 l'.length d1,.slice b2 ks'.length d2] 36 (0,0)):=by rw [← hW1];exact heap_alloc_new _ _
   have HSTEP:=Lib.hid (fun w2 lv' kv' (hb:Below W1.heap.size W1 w2) (hv:ValIn w2 (fun b=>W1.heap.size≤b) (.mk so' on' n' t' l' ks') lv' kv')=>by
    rw [← hW1] at hb hv
    exact cp_step HI.out hll he (by rw [HXL.out];omega) hb hv)
   have hbxW:W1.heap[w.heap.size]?=_:=(hbW1.block _ (by omega)).trans HI.out.box
   have hcurW:W1.heap[g]?=_:=(hbW1.block _ hglt).trans hcur
   have hcP:∀ W',Below W1.heap.size W1 W'→Calls Tryz.prog 90 #[.agg #[.int .i64 so',.bool on',.int .i64 n',.string ⟨t'.toArray⟩,.slice b1 l'.length d1,.slice b2 ks'.length d2]] W' fun e w2=>∃ a3 c3 a4 c4,e=.returned (.agg #[.int .i64 so',.bool on',.int .i64 n',.string ⟨t'.toArray⟩,.slice a3 l'.length c3,.slice a4 ks'.length c4]) ∧
     Hid (Below W1.heap.size W1 w2)∧Hid (ValIn w2 (fun b=>W1.heap.size≤b) (.mk so' on' n' t' l' ks') (.slice a3 l'.length c3) (.slice a4 ks'.length c4)) ∧
     w2.cell? ⟨w.heap.size,4,none⟩=some (.slice (some ⟨g,0,none⟩) ln cap) ∧
     (w2.cell? ⟨g,i*6,none⟩=some (.int .i64 so')∧w2.cell? ⟨g,i*6+1,none⟩=some (.bool on')∧w2.cell? ⟨g,i*6+2,none⟩=some (.int .i64 n')∧w2.cell? ⟨g,i*6+3,none⟩=some (.string ⟨t'.toArray⟩)∧w2.cell? ⟨g,i*6+4,none⟩=some (.slice b1 l'.length d1)∧w2.cell? ⟨g,i*6+5,none⟩=some (.slice b2 ks'.length d2))∧(∀ j,w2.frozen? ⟨g,j,none⟩=false):=fun W' hb'=>by
    have h:=(HIH.out l[i] (List.getElem_mem hll)) (.slice b1 l'.length d1) (.slice b2 ks'.length d2) (fun g=>g<w.heap.size) W' (by rw [he];exact ValIn.later (fun b hlt _=>((hbW1.trans (hb'.mono hbW1.size)).block b (by omega)).trans (HI.out.below.block b hlt)) (fun _ h=>h) _ _ _ hvi) (HWM.out _ (List.getElem_mem hll))
    rw [he] at h
    refine h.mono ?_
    rintro e w2 ⟨lv',kv',rfl,h1,h2⟩
    have h3:=h1
    obtain ⟨⟨a3,c3,rfl,_⟩,⟨a4,c4,rfl,_⟩⟩:=h3
    have hb2:Below W1.heap.size W1 w2:=hb'.trans (h2.mono hb'.size)
    have hb2r:Below wr.heap.size wr w2:=hbW1.trans (hb2.mono hbW1.size)
    have hc0:=fun (p:Addr) (u:Value) (hp:wr.cell? p=some u)=>(hb2r.cell (p:=p) (Lib.lt_of_cell hp)).trans hp
    exact ⟨a3,c3,a4,c4,rfl,Lib.hid hb2,Lib.hid (h1.later (fun _ _ _=>rfl) (fun b hb=>Nat.le_trans hb'.size hb) _ _ _),(cells_six ((hb2.block _ (by omega)).trans hbxW)).1.2.2.2.2.1,⟨hc0 _ _ p0,hc0 _ _ p1,hc0 _ _ p2,hc0 _ _ p3,hc0 _ _ p4,hc0 _ _ p5⟩,fun j=>(cell_row ((hb2.block _ (by omega)).trans hcurW) j).2⟩
   clear hvi hsp he hcell hrow hcur hyl
   go_wp2_with fail
   obtain ⟨⟨q0,q1,q2,q3,q4,q5⟩,qf⟩:=cells_six hnew
   obtain ⟨⟨m0,m1,m2,m3,m4,m5⟩,mf⟩:=cells_six hbxW
   clear hnew hbxW hcurW hbW1 hW1 k0 k1 k2 k3 k4 k5 kf p0 p1 p2 p3 p4 p5
   go_region_law (first
    | (go_simp;refine (hcP _ (by exact ⟨rfl,rfl,rfl,Nat.le_refl _,fun _ _=>rfl⟩)).mono ?_;rintro e w2 ⟨a3,c3,a4,c4,rfl,HB2,HV2,z4,⟨y0,y1,y2,y3,y4,y5⟩,yf⟩))
   all_goals
    have HFIN:=Lib.hid (HSTEP.out _ _ _ HB2.out HV2.out)
    clear hcP q0 q1 q2 q3 q4 q5 qf m0 m1 m2 m3 m4 m5 mf z4 y0 y1 y2 y3 y4 y5 yf
    go_wp2_with fail
    go_roundw
    case rel=>exact ⟨i+1,_,by go_num,by omega,HFIN⟩
    case measure=>simp [Go.RowKit.intOf];omega
  ·have hil:i=ln:=by omega
   subst hil
   have hst:=HI.out
   obtain ⟨⟨j0,j1,j2,j3,j4,j5⟩,jf⟩:=cells_six hst.res
   obtain ⟨cur2,hcur,hrow⟩:=hst.row
   have hdone:=hst.done
   rw [List.take_of_length_le (by rw [HLN.out];exact Nat.le_refl _)] at hdone
   have hgg:=hst.gge
   have HEND:Hid (ValIn wr (fun b=>w.heap.size+2≤b) (.mk so on n t l ks) (.slice (some ⟨g,0,none⟩) i cap) (.slice ka kn kc)):=Lib.hid (by
    refine ⟨⟨some ⟨g,0,none⟩,cap,by rw [HLN.out],.inr ⟨g,0,ys,rfl,hgg,fun j u hj=>?_,ListIn.later (fun _ _ _=>rfl) (fun _ h=>h.1) _ _ hdone⟩⟩,hst.keys.later (fun _ _ _=>rfl) (fun _ h=>h.1)⟩
    rw [Nat.zero_add,(cell_row hcur _).1]
    refine hrow j u ?_
    rw [List.getElem?_append_left (List.getElem?_eq_some_iff.1 hj).1]
    exact hj)
   have HBE:=Lib.hid hst.below
   clear hst hcur hrow hdone HI
   go_wp2_with fail
   refine bodyPost_ret (v:=.agg #[.int .i64 so,.bool on,.int .i64 n,.string ⟨t.toArray⟩,.slice (some ⟨g,0,none⟩) i cap,.slice ka kn kc]) (by simp [results,Tryz.results90,go_sem,j0,j1,j2,j3,j4,j5]) rfl ?_
   refine ⟨_,_,rfl,HEND.out.later (fun b hb _=>far6 wr (w.heap.size+1) b _ _ _ _ _ _ (by omega)) (fun b hb=>by omega) _ _ _,?_⟩
   exact below6 HBE.out (Nat.le_succ _) _ _ _ _ _ _
end Go.Proofs.YtpbnhnilfpoljaaGreatDoor.V
namespace Go.Proofs.YtpbnhnilfpoljaaGreatDoor.V
open Go.RowKit
open Go.Lib
theorem idx_of (x:List UInt8):∀ (ks:List (List UInt8)) (i:Nat),Lib.idxFromS (ks.map fun k=>⟨k.toArray⟩) ⟨x.toArray⟩ i=if x∈ks then ((i+ks.idxOf x:Nat):Int) else -1
 | [],i=>by simp [Lib.idxFromS]
 | k :: r,i=>by
  simp only [List.map_cons,Lib.idxFromS]
  by_cases h:k=x
  ·subst h;simp
  ·have h2:¬ ((⟨k.toArray⟩:ByteArray)=⟨x.toArray⟩):=fun e=>h (bytes_inj.1 e)
   have h3:(k==x)=false:=beq_eq_false_iff_ne.2 h
   rw [if_neg h2,idx_of x r (i+1)]
   by_cases hm:x∈r
   ·rw [if_pos hm,if_pos (List.mem_cons_of_mem _ hm),List.idxOf_cons,h3]
    simp only [cond_false]
    omega
   ·rw [if_neg hm,if_neg (fun h4=>(List.mem_cons.1 h4).elim (fun e=>h e.symm) hm)]
def idxK (ks:List (List UInt8)) (x:List UInt8):Int:=if x∈ks then (ks.idxOf x:Int) else -1
theorem index_any (ks:List (List UInt8)) (a:Option Addr) (c:Nat) (R:Nat→Prop) (w:World) (h:KeysIn w R ks (.slice a ks.length c)) (hb:ks.length≤1099511627776) (x:List UInt8) :
  Calls Tryz.prog 89 #[.slice a ks.length c,.string ⟨x.toArray⟩] w fun e w'=>e=.returned (.int .i64 (idxK ks x))∧w'=w:=by
 have hi:Lib.idxOfS (ks.map fun k=>⟨k.toArray⟩) ⟨x.toArray⟩=idxK ks x:=by
  unfold Lib.idxOfS idxK
  rw [idx_of x ks 0,Nat.zero_add]
 rcases texts_of h with h0|⟨g,off,rfl,hc⟩
 ·subst h0
  have h9:idxK [] x=Lib.idxOfS [] ⟨x.toArray⟩:=by unfold idxK;rw [if_neg (by simp)];rfl
  rw [h9]
  exact Tryz.slices_Index_string_empty a c ⟨x.toArray⟩ w
 ·have h:=Tryz.slices_Index_string g off ks.length c (ks.map fun k=>⟨k.toArray⟩) ⟨x.toArray⟩ w (by simp) (by omega) (fun j hj=>by
   have:=hc j (by simpa using hj)
   rw [this]
   simp at hj;simp [hj])
  rw [List.take_of_length_le (by simp),hi] at h
  exact h
def GetsV (v:Val) (p:List (List UInt8)) (w:World) (e:Ending) (w':World):Prop :=
 Below w.heap.size w w'∧((getP v p=none∧e=.returned (.tuple #[.agg #[.int .i64 0,.bool false,.int .i64 0,.string ⟨#[]⟩,.slice none 0 0,.slice none 0 0],.bool false]))∨∃ u lv' kv',getP v p=some u∧e=.returned (.tuple #[arg u lv' kv',.bool true])∧ValIn w' (fun g=>w.heap.size≤g) u lv' kv')
theorem getP_step {so:Int} {on:Bool} {n:Int} {t:List UInt8} {l:List Val} {ks:List (List UInt8)} {x:List UInt8} {p:List (List UInt8)} (hs:so=5) (h1:ks.idxOf x<l.length) (h2:ks.idxOf x<ks.length):getP (.mk so on n t l ks) (x :: p)=getP l[ks.idxOf x] p:=by
 simp only [getP,if_pos hs,if_pos (And.intro h1 h2),List.getElem?_eq_getElem h1]
theorem getP_no {so:Int} {on:Bool} {n:Int} {t:List UInt8} {l:List Val} {ks:List (List UInt8)} {x:List UInt8} {p:List (List UInt8)} (h:¬ (so=5∧ks.idxOf x<l.length∧ks.idxOf x<ks.length)):getP (.mk so on n t l ks) (x :: p)=none:=by
 simp only [getP]
 by_cases hs:so=5
 ·rw [if_pos hs,if_neg (fun h2=>h ⟨hs,h2⟩)]
 ·rw [if_neg hs]
set_option maxRecDepth 20000 in
set_option maxHeartbeats 8000000 in
theorem get_any (v:Val) (lv kv:Value) (p:List (List UInt8)) (pa:Option Addr) (pc:Nat) (R R':Nat→Prop) (w:World) (hv0:ValIn w R v lv kv) (hp:KeysIn w R' p (.slice pa p.length pc)) (hpl:p.length≤1099511627776) (hw:wt v≤65536) :
  Calls Tryz.prog 56 #[arg v lv kv,.slice pa p.length pc] w (GetsV v p w):=by
 have hv:ValIn w (fun g=>g<w.heap.size) v lv kv:=(ValIn.bound _ _ _ hv0).later (fun _ _ _=>rfl) (fun _ h=>h.2) _ _ _
 have HP:=Lib.hid (texts_of hp)
 have HV:=Lib.hid hv
 have HW:=Lib.hid hw
 obtain ⟨pn,hpn⟩:∃ k,p.length=k:=⟨_,rfl⟩
 have HPN:=Lib.hid hpn
 have HG:=Lib.hid (show getP v p=getP v (p.drop 0) from rfl)
 obtain ⟨G,hG⟩:∃ G,getP v p=G:=⟨_,rfl⟩
 have HGV:=Lib.hid (show ∀ e w',Below w.heap.size w w'→((G=none∧e=.returned (.tuple #[.agg #[.int .i64 0,.bool false,.int .i64 0,.string ⟨#[]⟩,.slice none 0 0,.slice none 0 0],.bool false]))∨∃ u lv' kv',G=some u∧e=.returned (.tuple #[arg u lv' kv',.bool true])∧ValIn w' (fun g=>w.heap.size≤g) u lv' kv')→GetsV v p w e w' from fun e w' hb h=>⟨hb,by rw [hG];exact h⟩)
 rw [hG] at HG
 have hv1:=hv
 obtain ⟨so0,on0,n0,t0,l0,ks0⟩:=v
 obtain ⟨⟨a01,c01,rfl,_⟩,⟨a02,c02,rfl,_⟩⟩:=hv1
 obtain ⟨t1',t2',tb,tz⟩:=two w (.cells #[.int .i64 so0,.bool on0,.int .i64 n0,.string ⟨t0.toArray⟩,.slice a01 l0.length c01,.slice a02 ks0.length c02] 36) (.cells #[.int .i64 0,.bool false,.int .i64 0,.string ⟨#[]⟩,.slice none 0 0,.slice none 0 0] 36)
 have T1:=Lib.hid t1'
 have T2:=Lib.hid t2'
 have TB:=Lib.hid tb
 rw [hpn] at hpl ⊢
 simp only [arg,six',six,strCell]
 clear hv0 hp hw hv hpn hG t1' t2' tb tz
 go_enter Tryz.func56,Tryz.ntmps56
 go_wp2_with fail
 generalize (w.alloc (.cells #[.int .i64 so0,.bool on0,.int .i64 n0,.string ⟨t0.toArray⟩,.slice a01 l0.length c01,.slice a02 ks0.length c02] 36)).alloc (.cells #[.int .i64 0,.bool false,.int .i64 0,.string ⟨#[]⟩,.slice none 0 0,.slice none 0 0] 36)=w0 at T1 T2 TB ⊢
 go_loopw [11] (fun iv wr=>∃ (i:Nat) (u:Val) (lu ku:Value),iv=.int .i64 i∧i≤pn∧Hid (G=getP u (p.drop i))∧Hid (ValIn w (fun g=>g<w.heap.size) u lu ku)∧Hid (wt u≤65536)∧Hid (wr.heap[w.heap.size]?=some (.cells (six' u lu ku).toArray 36 (0,0)))∧Hid (wr.heap[w.heap.size+1]?=some (.cells #[.int .i64 0,.bool false,.int .i64 0,.string ⟨#[]⟩,.slice none 0 0,.slice none 0 0] 36 (0,0)))∧Hid (Below w.heap.size w wr)) (fun iv _=>pn - (Go.RowKit.intOf iv).toNat)
 case atStart=>exact ⟨0,_,_,_,rfl,by omega,HG,HV,HW,T1,T2,TB⟩
 case round =>
  obtain ⟨i,u,lu,ku,rfl,hi,HI,HU,HWU,HX,HZ,HB⟩:=hrel
  obtain ⟨so,on,n,t,l,ks⟩:=u
  have hu:=HU.out
  obtain ⟨⟨a1,c1,rfl,_⟩,⟨a2,c2,rfl,_⟩⟩:=hu
  have hx:wr.heap[w.heap.size]?=some (.cells #[.int .i64 so,.bool on,.int .i64 n,.string ⟨t.toArray⟩,.slice a1 l.length c1,.slice a2 ks.length c2] 36 (0,0)):=HX.out
  have HX2:=Lib.hid hx
  obtain ⟨⟨k0,k1,k2,k3,k4,k5⟩,kf⟩:=cells_six hx
  obtain ⟨⟨j0,j1,j2,j3,j4,j5⟩,jf⟩:=cells_six HZ.out
  have hwu:=HWU.out
  simp only [wt] at hwu
  have hwl:wtL l≤65536:=by omega
  have hks:ks.length≤65536:=Nat.le_trans (wt_keys ks) (by omega)
  have hlb:l.length≤65536:=Nat.le_trans (wtL_length l) hwl
  have hzz:w.heap.size+1<wr.heap.size:=(Array.getElem?_eq_some_iff.1 HZ.out).1
  have hur:ValIn wr (fun g=>g<w.heap.size) (.mk so on n t l ks) (.slice a1 l.length c1) (.slice a2 ks.length c2):=val_below HU.out HB.out
  clear hx hwu HX
  by_cases hlt:i<pn
  ·have hll:i<p.length:=by rw [HPN.out];exact hlt
   obtain ⟨pg,po,rfl,hpc⟩:=HP.out.resolve_left (fun h=>by rw [h] at hll;exact Nat.not_lt_zero _ hll)
   have hq:=(HB.out.cell (p:=⟨pg,po+i,none⟩) (Lib.lt_of_cell (hpc i hll))).trans (hpc i hll)
   have hI:=HI.out
   rw [List.drop_eq_getElem_cons hll] at hI
   generalize p[i]=x at hq hI
   have cI:=index_any ks a2 c2 _ wr hur.2 (by omega) x
   by_cases hso:so=5∧ks.idxOf x<l.length∧ks.idxOf x<ks.length
   ·obtain ⟨rfl,hal,hak⟩:=hso
    have hxm:x∈ks:=List.idxOf_lt_length_iff.1 hak
    rw [getP_step rfl hal hak] at hI
    rw [show idxK ks x=((ks.idxOf x:Nat):Int) by unfold idxK;rw [if_pos hxm]] at cI
    obtain ⟨a,ha⟩:∃ a,ks.idxOf x=a:=⟨_,rfl⟩
    rw [ha] at cI hal
    have hI2:G=getP l[a] (p.drop (i+1)):=by rw [hI];congr 1;simp only [ha]
    obtain ⟨g,off,xs,rfl,hg,hc,hL⟩:=(parts_of hur).resolve_left (fun h=>by rw [h] at hal;exact Nat.not_lt_zero _ hal)
    obtain ⟨so1,on1,n1,t1,l1,ks1,b1,d1,b2,d2,he,hpv,r0,r1,r2,r3,r4,r5⟩:=part_at a hL hc hal
    have hwm:wt l[a]≤wtL l:=wtL_mem (List.getElem_mem hal)
    rw [he] at hI2 hwm
    have HI2:=Lib.hid hI2
    have HW2:=Lib.hid (Nat.le_trans hwm hwl)
    have HPV:=Lib.hid (ValIn.later (W':=w) (R':=fun g=>g<w.heap.size) (fun b hb' _=>(HB.out.block b hb').symm) (fun _ h=>h) _ _ _ hpv)
    clear hI hI2 he hwm hpv hc hL hur hpc ha hxm hak
    go_wp2_with fail
    refine cI.mono ?_
    rintro e w2 ⟨rfl,rfl⟩
    clear cI
    go_wp2_with fail
    go_roundw
    case rel=>exact ⟨i+1,_,_,_,by go_num,by omega,HI2,HPV,HW2,Lib.hid (six_set HX2.out _ _ _ _ _ _),Lib.hid ((far6 _ _ _ _ _ _ _ _ _ (by omega)).trans HZ.out),Lib.hid (below6 HB.out (Nat.le_refl _) _ _ _ _ _ _)⟩
    case measure=>simp [Go.RowKit.intOf];omega
   ·rw [getP_no hso] at hI
    have HN:=Lib.hid hI
    clear hI hur hpc HI
    by_cases h5:so=5
    ·subst h5
     by_cases hm:x∈ks
     ·have hak:=List.idxOf_lt_length_iff.2 hm
      rw [show idxK ks x=((ks.idxOf x:Nat):Int) by unfold idxK;rw [if_pos hm]] at cI
      obtain ⟨a,ha⟩:∃ a,ks.idxOf x=a:=⟨_,rfl⟩
      have hge:l.length≤a:=by
       rw [← ha]
       exact Nat.le_of_not_lt (fun h=>hso ⟨rfl,h,hak⟩)
      rw [ha] at cI hak
      have hab:a≤65536:=by omega
      clear hso hm ha hak
      go_wp2_with fail
      refine cI.mono ?_
      rintro e w2 ⟨rfl,rfl⟩
      clear cI
      go_wp2_with fail
      refine bodyPost_ret (v:=.tuple #[.agg #[.int .i64 0,.bool false,.int .i64 0,.string ⟨#[]⟩,.slice none 0 0,.slice none 0 0],.bool false]) (by simp [results,Tryz.results56,go_sem,j0,j1,j2,j3,j4,j5]) rfl ?_
      exact HGV.out _ _ (below6 HB.out (Nat.le_succ _) _ _ _ _ _ _) (.inl ⟨HN.out,rfl⟩)
     ·rw [show idxK ks x=-1 by unfold idxK;rw [if_neg hm]] at cI
      clear hso hm
      go_wp2_with fail
      refine cI.mono ?_
      rintro e w2 ⟨rfl,rfl⟩
      clear cI
      go_wp2_with fail
      refine bodyPost_ret (v:=.tuple #[.agg #[.int .i64 0,.bool false,.int .i64 0,.string ⟨#[]⟩,.slice none 0 0,.slice none 0 0],.bool false]) (by simp [results,Tryz.results56,go_sem,j0,j1,j2,j3,j4,j5]) rfl ?_
      exact HGV.out _ _ (below6 HB.out (Nat.le_succ _) _ _ _ _ _ _) (.inl ⟨HN.out,rfl⟩)
    ·have q5:(so==5)=false:=by simpa using h5
     have q5':(so != 5)=true:=by simpa using h5
     generalize idxK ks x=kx at cI
     clear hso h5
     go_wp2_with fail
     refine cI.mono ?_
     rintro e w2 ⟨rfl,rfl⟩
     clear cI
     go_wp2_with fail
     refine bodyPost_ret (v:=.tuple #[.agg #[.int .i64 0,.bool false,.int .i64 0,.string ⟨#[]⟩,.slice none 0 0,.slice none 0 0],.bool false]) (by simp [results,Tryz.results56,go_sem,j0,j1,j2,j3,j4,j5]) rfl ?_
     exact HGV.out _ _ (below6 HB.out (Nat.le_succ _) _ _ _ _ _ _) (.inl ⟨HN.out,rfl⟩)
  ·have hI:=HI.out
   rw [List.drop_eq_nil_of_le (by rw [HPN.out];omega)] at hI
   have hG:G=some (.mk so on n t l ks):=by rw [hI];simp only [getP]
   have HG2:=Lib.hid hG
   have cN:=nest_any (.mk so on n t l ks) _ _ _ 65536 wr hur (by omega) (Nat.le_trans HWU.out (by omega))
   rw [nestP_wt _ _ HWU.out] at cN
   have HC:=Lib.hid (fun W (hb:Below wr.heap.size wr W)=>copy_v (.mk so on n t l ks) _ _ _ W (val_below hur hb) (Nat.le_trans HWU.out (by omega)))
   simp only [arg,six',six,strCell] at cN HC
   clear hI hG hur
   go_wp2_with fail
   refine cN.mono ?_
   rintro e w2 ⟨rfl,hb2⟩
   have hz2:=hb2.size
   have HB2:=Lib.hid (HB.out.trans (hb2.mono HB.out.size))
   have cC:=HC.out w2 hb2
   obtain ⟨⟨m0,m1,m2,m3,m4,m5⟩,mf⟩:=cells_six ((hb2.block w.heap.size (by omega)).trans HX2.out)
   have HZ2:=Lib.hid ((hb2.block (w.heap.size+1) (by omega)).trans HZ.out)
   clear cN hb2 HC k0 k1 k2 k3 k4 k5 kf j0 j1 j2 j3 j4 j5 jf
   go_wp2_with fail
   refine cC.mono ?_
   rintro e w3 ⟨lv',kv',rfl,hv3,hb3⟩
   have hv4:=hv3
   obtain ⟨⟨a3,c3,rfl,_⟩,⟨a4,c4,rfl,_⟩⟩:=hv4
   have hz3:=hb3.size
   have HB3:=Lib.hid (HB2.out.trans (hb3.mono HB2.out.size))
   have HV3:=Lib.hid hv3
   obtain ⟨⟨j0,j1,j2,j3,j4,j5⟩,jf⟩:=cells_six ((hb3.block (w.heap.size+1) (by omega)).trans HZ2.out)
   clear cC hb3 hv3 m0 m1 m2 m3 m4 m5 mf
   go_wp2_with fail
   refine bodyPost_ret (v:=.tuple #[.agg #[.int .i64 so,.bool on,.int .i64 n,.string ⟨t.toArray⟩,.slice a3 l.length c3,.slice a4 ks.length c4],.bool true]) (by simp [results,Tryz.results56,go_sem,j0,j1,j2,j3,j4,j5]) rfl ?_
   exact HGV.out _ _ (below6 HB3.out (Nat.le_succ _) _ _ _ _ _ _) (.inr ⟨_,_,_,HG2.out,rfl,HV3.out.later (fun g hg _=>far6 w3 (w.heap.size+1) g _ _ _ _ _ _ (by omega)) (fun g hg=>by omega) _ _ _⟩)
end Go.Proofs.YtpbnhnilfpoljaaGreatDoor.V
