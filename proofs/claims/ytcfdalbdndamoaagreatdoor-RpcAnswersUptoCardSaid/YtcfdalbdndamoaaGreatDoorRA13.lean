/- What the claim needs of the texts VTo, MPlain, MRep. -/
import Derived.Test.YtcfdalbdndamoaaGreatDoorRA10
import Derived.Deep.RegionLaw
import Derived.Deep.AppendLies
import Derived.OwnWalk
import Derived.Laws.Pointers
import Derived.Test.YtcfdalbdndamoaaGreatDoorRA12
import Derived.Test.YtcfdalbdndamoaaGreatDoorRA11
import Derived.Deep.RegionHeld3
import Derived.Deep.DrawnRows
import Derived.Laws.AppendOwnNone
import Derived.Laws.MakeOwn
namespace Go.Proofs.YtcfdalbdndamoaaGreatDoor.V
open Go.RowKit
open Go.Lib
structure ToSt (B : Nat) (so : Int) (on : Bool) (n : Int) (t : List UInt8) (bl kv lvo : Value) (vs : List Val) (xs : List Value) (w wr : World) : Prop where
 below : Below w.heap.size w wr
 size : w.heap.size + 3 ≤ wr.heap.size
 box : wr.heap[w.heap.size]? = some (.cells #[.int .i64 so,.bool on,.int .i64 n,.string ⟨t.toArray⟩,bl,kv] 36 (0,0))
 res : wr.heap[w.heap.size + 1]? = some (.cells #[.int .i64 0,.bool false,.int .i64 0,.string ⟨#[]⟩,.slice none 0 0,.slice none 0 0] 26 (0,0))
 val : wr.heap[w.heap.size + 2]? = some (.cells #[.int .i64 so,.bool on,.int .i64 n,.string ⟨t.toArray⟩,lvo,kv] 26 (0,0))
 own : wr.ownsRow (w.heap.size + 3) 26 6 lvo vs.length xs
 parts : ListIn wr (fun g => g < B ∨ (w.heap.size + 3 ≤ g ∧ lvo.ownBlock ≠ some g)) vs xs
theorem to_step {B gg capg m : Nat} {so n : Int} {on : Bool} {t : List UInt8} {bl kv lvo lv' kv' : Value} {vs : List Val} {v : Val} {xs : List Value} {w wr w2 w3 : World} {zo : Obj}
  (hst : ToSt B so on n t bl kv lvo vs xs w wr) (hm : vs.length = m) (hB : B ≤ w.heap.size) (hb2 : Below wr.heap.size wr w2) (hv : ValIn w2 (fun g => g < B ∨ wr.heap.size ≤ g) v lv' kv')
  (hgrow : (w2.alloc zo).grownBy w3 lvo.ownBlock)
  (hown3 : w3.ownsRow (w.heap.size + 3) 26 6 (.slice (some ⟨gg,0,none⟩) (m + 1) capg) (m + 1) (xs ++ six' v lv' kv'))
  (hat : lvo.ownBlock = some gg ∨ gg = w2.heap.size + 1) :
  ToSt B so on n t bl kv (.slice (some ⟨gg,0,none⟩) (m + 1) capg) (vs ++ [v]) (xs ++ six' v lv' kv') w (w3.setCell ⟨w.heap.size + 2,4,none⟩ (.slice (some ⟨gg,0,none⟩) (m + 1) capg)) := by
 have hrow : ∀ k,lvo.ownBlock = some k → w.heap.size + 3 ≤ k ∧ k < wr.heap.size := fun k hk => World.ownsRowF.lt (World.ownsRowF_of hst.own) k hk
 have hz2 := hb2.size
 have hz0 := hst.size
 have hgB : w.heap.size + 3 ≤ gg := by
  rcases hat with h | h
  ·exact (hrow gg h).1
  ·omega
 have hne2 : gg ≠ w.heap.size + 2 := by omega
 have hggw : ∀ k,k < w2.heap.size → lvo.ownBlock ≠ some k → k ≠ gg := fun k hk hne h => by
  subst h; rcases hat with h | h
  ·exact hne h
  ·omega
 have far3 : ∀ k,k < w2.heap.size → lvo.ownBlock ≠ some k → w3.heap[k]? = w2.heap[k]? := fun k hk hne => by
  rw [hgrow.block k (by simp; omega) (fun h => hne h.symm)]
  exact Below.heap_alloc w2 zo k (by omega)
 have far2 : ∀ k,k < w2.heap.size → lvo.ownBlock ≠ some k → k ≠ w.heap.size + 2 → (w3.setCell ⟨w.heap.size + 2,4,none⟩ (.slice (some ⟨gg,0,none⟩) (m + 1) capg)).heap[k]? = w2.heap[k]? := fun k hk hne hkb => by
  rw [Below.heap_setCell _ _ _ _ hkb]
  exact far3 k hk hne
 have hlow : ∀ k,k < w.heap.size + 3 → lvo.ownBlock ≠ some k := fun k hk h => by have := hrow k h; omega
 have hs3 := hgrow.size
 simp only [World.size_alloc] at hs3
 refine ⟨?_,?_,?_,?_,?_,?_,?_⟩
 ·refine ⟨hgrow.os.trans (hb2.os.trans hst.below.os),hgrow.tape.trans (hb2.tape.trans hst.below.tape),hgrow.output.trans (hb2.output.trans hst.below.output),?_,fun k hk => ?_⟩
  ·rw [sc_size]; omega
  ·exact (far2 k (by omega) (hlow k (by omega)) (by omega)).trans ((hb2.block k (by omega)).trans (hst.below.block k hk))
 ·rw [sc_size]; omega
 ·exact (far2 _ (by omega) (hlow _ (by omega)) (by omega)).trans ((hb2.block _ (by omega)).trans hst.box)
 ·exact (far2 _ (by omega) (hlow _ (by omega)) (by omega)).trans ((hb2.block _ (by omega)).trans hst.res)
 ·exact Go.Joins.block_setCell (cs := #[.int .i64 so,.bool on,.int .i64 n,.string ⟨t.toArray⟩,lvo,kv]) (i := 4) ((far3 _ (by omega) (hlow _ (by omega))).trans ((hb2.block _ (by omega)).trans hst.val)) _
 ·rw [List.length_append,List.length_singleton,hm]
  refine ownsRow_same hown3 fun g hg => ?_
  have hg : gg = g := by simpa [Value.ownBlock] using hg
  have hg2 : g ≠ w.heap.size + 2 := by omega
  rw [Below.heap_setCell _ _ _ _ hg2]
 ·refine ListIn.snoc ?_ ?_
  ·refine ListIn.later (R := fun g => (g < B ∨ (w.heap.size + 3 ≤ g ∧ lvo.ownBlock ≠ some g)) ∧ g < wr.heap.size) (fun g hg hlt => ?_) (fun g hg => ?_) vs xs (ListIn.bound vs xs hst.parts)
   ·have hne : lvo.ownBlock ≠ some g := by
     rcases hg.1 with h | h
     ·exact hlow g (by omega)
     ·exact h.2
    have : g ≠ w.heap.size + 2 := by
     rcases hg.1 with h | h
     ·omega
     ·omega
    exact (far2 g (by omega) hne this).trans (hb2.block g hlt)
   ·rcases hg.1 with h | h
    ·exact .inl h
    ·refine .inr ⟨h.1,fun h2 => ?_⟩
     have h2 : gg = g := by simpa [Value.ownBlock] using h2
     exact hggw g (by omega) h.2 h2.symm
  ·refine ValIn.later (R := fun g => (g < B ∨ wr.heap.size ≤ g) ∧ g < w2.heap.size) (fun g hg hlt => ?_) (fun g hg => ?_) _ _ _ (ValIn.bound _ _ _ hv)
   ·have hne : lvo.ownBlock ≠ some g := fun h => by
     have := hrow g h
     rcases hg.1 with h | h <;> omega
    exact far2 g hlt hne (by rcases hg.1 with h | h <;> omega)
   ·rcases hg.1 with h | h
    ·exact .inl h
    ·refine .inr ⟨by omega,fun h2 => ?_⟩
     have h2 : gg = g := by simpa [Value.ownBlock] using h2
     exact hggw g hg.2 (fun h3 => by have := hrow g h3; omega) h2.symm
theorem to_end {B : Nat} {so n : Int} {on : Bool} {t : List UInt8} {bl kv lvo : Value} {vs : List Val} {ks : List (List UInt8)} {xs : List Value} {w wr : World}
  (hst : ToSt B so on n t bl kv lvo vs xs w wr) (hk : KeysIn w (fun g => g < B) ks kv) : ValIn wr (fun g => g < B ∨ w.heap.size + 3 ≤ g) (.mk so on n t vs ks) lvo kv := by
 refine ⟨?_,hk.later (fun g hg hlt => hst.below.block g hlt) (fun _ h => .inl h)⟩
 rcases hst.own.2 with ⟨h1,h2⟩ | ⟨g,cap,cur,h1,hg,hgg,hle,hcap,hsz,htake⟩
 ·exact ⟨none,0,by rw [h1,h2],.inl (List.eq_nil_of_length_eq_zero h2)⟩
 ·refine ⟨some ⟨g,0,none⟩,cap,h1,.inr ⟨g,0,xs,rfl,.inr hg,fun j u hj => ?_,ListIn.later (fun _ _ _ => rfl) (fun g hg => hg.imp id (·.1)) _ _ hst.parts⟩⟩
  rw [Nat.zero_add]
  unfold World.cell?
  rw [hgg]
  rw [← htake,List.getElem?_take] at hj
  split at hj
  ·simpa using hj
  ·cases hj
theorem to_start (B : Nat) (so : Int) (on : Bool) (n : Int) (t : List UInt8) (bl kv : Value) (w : World) :
  ToSt B so on n t bl kv (.slice none 0 0) [] [] w (((w.alloc (.cells #[.int .i64 so,.bool on,.int .i64 n,.string ⟨t.toArray⟩,bl,kv] 36)).alloc (.cells #[.int .i64 0,.bool false,.int .i64 0,.string ⟨#[]⟩,.slice none 0 0,.slice none 0 0] 26)).alloc (.cells #[.int .i64 so,.bool on,.int .i64 n,.string ⟨t.toArray⟩,.slice none 0 0,kv] 26)) := by
 obtain ⟨h1,h2,h3,h4⟩ := two w (.cells #[.int .i64 so,.bool on,.int .i64 n,.string ⟨t.toArray⟩,bl,kv] 36) (.cells #[.int .i64 0,.bool false,.int .i64 0,.string ⟨#[]⟩,.slice none 0 0,.slice none 0 0] 26)
 generalize (w.alloc (.cells #[.int .i64 so,.bool on,.int .i64 n,.string ⟨t.toArray⟩,bl,kv] 36)).alloc (.cells #[.int .i64 0,.bool false,.int .i64 0,.string ⟨#[]⟩,.slice none 0 0,.slice none 0 0] 26) = W at *
 have h5 := heap_alloc_new W (.cells #[.int .i64 so,.bool on,.int .i64 n,.string ⟨t.toArray⟩,.slice none 0 0,kv] 26)
 have hb : Below W.heap.size W (W.alloc (.cells #[.int .i64 so,.bool on,.int .i64 n,.string ⟨t.toArray⟩,.slice none 0 0,kv] 26)) := (Below.refl _ _).alloc (Nat.le_refl _) _
 rw [h4] at h5
 exact ⟨h3.trans (hb.mono (by omega)),by simp; omega,(hb.block _ (by omega)).trans h1,(hb.block _ (by omega)).trans h2,h5,⟨by simp,.inl ⟨rfl,rfl⟩⟩,rfl⟩
theorem infoR : (Tryz.prog.info? 26).map (fun i => (i.zero,i.size,i.bytes)) = some (some (.agg #[.int .i64 0,.bool false,.int .i64 0,.string ⟨#[]⟩,.slice none 0 0,.slice none 0 0]),6,88) := by kernel_rfl
def ToC (v : Val) : Prop := ∀ (lv kv : Value) (B : Nat) (w : World),ValIn w (fun g => g < B) v lv kv → B ≤ w.heap.size → wt v ≤ 1099511627776 →
 Calls Tryz.prog 12 #[arg v lv kv] w fun e w' => Below w.heap.size w w' ∧ ∃ lv',e = .returned (arg v lv' kv) ∧ ValIn w' (fun g => g < B ∨ w.heap.size ≤ g) v lv' kv
set_option maxHeartbeats 8000000 in
set_option maxRecDepth 100000 in
theorem to_v : ∀ v,ToC v := Val.ind fun so on n t l ks IH lv kv B w hv hB hw => by
 obtain ⟨i0,hi0,hz0,hz1,hz2⟩ := info_parts infoR
 have hv' := hv
 obtain ⟨⟨a1,c1,rfl,hl⟩,⟨a2,c2,rfl,hk⟩⟩ := hv'
 have HV := Lib.hid hv
 have HL := Lib.hid hl
 have HIH := Lib.hid IH
 have hw2 := hw
 simp only [wt] at hw2
 have hw3 : wtL l ≤ 1099511627776 := by omega
 have HWM := Lib.hid (fun v (h : v ∈ l) => Nat.le_trans (wtL_mem h) hw3)
 have hlb : l.length ≤ 1099511627776 := Nat.le_trans (wtL_length l) hw3
 obtain ⟨ln,hln⟩ : ∃ k,l.length = k := ⟨_,rfl⟩
 obtain ⟨kn,hkn⟩ : ∃ k,ks.length = k := ⟨_,rfl⟩
 have HLN := Lib.hid hln
 have HKN := Lib.hid hkn
 simp only [arg,six',six,strCell]
 rw [hln,hkn]
 rw [hln] at hlb
 clear hv hl hk IH hw hw2 hw3 hln hkn
 go_enter Tryz.func12,Tryz.ntmps12
 go_wp2_with fail
 obtain ⟨w1,hw1⟩ : ∃ w1,((w.alloc (.cells #[.int .i64 so,.bool on,.int .i64 n,.string ⟨t.toArray⟩,.slice a1 ln c1,.slice a2 kn c2] 36)).alloc (.cells #[.int .i64 0,.bool false,.int .i64 0,.string ⟨#[]⟩,.slice none 0 0,.slice none 0 0] 26)).alloc (.cells #[.int .i64 so,.bool on,.int .i64 n,.string ⟨t.toArray⟩,.slice none 0 0,.slice a2 kn c2] 26) = w1 := ⟨_,rfl⟩
 rw [hw1]
 have HST : Hid (ToSt B so on n t (.slice a1 ln c1) (.slice a2 kn c2) (.slice none 0 0) [] [] w w1) := Lib.hid (by
  rw [← hw1]
  exact to_start B so on n t _ _ w)
 clear hw1
 go_loopw [4] (fun iv wr => ∃ (i : Nat) (ao : Option Addr) (cap : Nat) (xs : List Value),iv = .int .i64 i ∧ i ≤ ln ∧ Hid (ToSt B so on n t (.slice a1 ln c1) (.slice a2 kn c2) (.slice ao i cap) (l.take i) xs w wr)) (fun iv _ => ln - (Go.RowKit.intOf iv).toNat)
 case atStart => exact ⟨0,none,0,[],rfl,by omega,HST⟩
 case round =>
  obtain ⟨i,ao,cap,xs,rfl,hi,HI⟩ := hrel
  obtain ⟨⟨k0,k1,k2,k3,k4,k5⟩,kf⟩ := cells_six HI.out.box
  by_cases hlt : i < ln
  ·have hll : i < l.length := by rw [HLN.out]; exact hlt
   obtain ⟨g,off,xs0,rfl,hg,hc,hL⟩ := HL.out.resolve_left (fun h => by rw [h] at hll; exact Nat.not_lt_zero _ hll)
   have hsm : Same (fun g => g < B) w wr := fun b _ hb => HI.out.below.block b hb
   obtain ⟨so',on',n',t',l',ks',a1',c1',a2',c2',he,hv',j0,j1,j2,j3,j4,j5⟩ := part_at i (ListIn.later hsm (fun _ h => h) l xs0 hL) (hc.later hg hsm) hll
   have hzr := HI.out.size
   have cP : ∀ W',Below wr.heap.size wr W' → Calls Tryz.prog 12 #[arg l[i] (.slice a1' l'.length c1') (.slice a2' ks'.length c2')] W' fun e w' => Below wr.heap.size wr w' ∧ ∃ lv',e = .returned (arg l[i] lv' (.slice a2' ks'.length c2')) ∧ ValIn w' (fun g => g < B ∨ wr.heap.size ≤ g) l[i] lv' (.slice a2' ks'.length c2') := fun W' hb' => by
    refine ((HIH.out l[i] (List.getElem_mem hll)) (.slice a1' l'.length c1') (.slice a2' ks'.length c2') B W' (by rw [he]; exact ValIn.later (fun b _ hb => hb'.block b hb) (fun _ h => h) _ _ _ hv') (by have := hb'.size; omega) (HWM.out _ (List.getElem_mem hll))).mono ?_
    rintro e w' ⟨h1,lv',h2,h3⟩
    exact ⟨hb'.trans (h1.mono hb'.size),lv',h2,h3.later (fun _ _ _ => rfl) (fun g hg => hg.imp id (fun h => Nat.le_trans hb'.size h)) _ _ _⟩
   have htk : l.take (i + 1) = l.take i ++ [l[i]] := List.take_succ_eq_append_getElem hll
   have htl : (l.take i).length = i := by simp; omega
   rw [he] at cP htk
   have hcP : ∀ W',Below wr.heap.size wr W' → Calls Tryz.prog 12 #[.agg #[.int .i64 so',.bool on',.int .i64 n',.string ⟨t'.toArray⟩,.slice a1' l'.length c1',.slice a2' ks'.length c2']] W' fun e w2 => ∃ a3 c3,e = .returned (.agg #[.int .i64 so',.bool on',.int .i64 n',.string ⟨t'.toArray⟩,.slice a3 l'.length c3,.slice a2' ks'.length c2']) ∧
     Hid (Below wr.heap.size wr w2) ∧ Hid (ValIn w2 (fun g => g < B ∨ wr.heap.size ≤ g) (.mk so' on' n' t' l' ks') (.slice a3 l'.length c3) (.slice a2' ks'.length c2')) ∧
     w2.cell? ⟨w.heap.size,4,none⟩ = some (.slice (some ⟨g,off,none⟩) ln c1) ∧ w2.cell? ⟨w.heap.size + 2,4,none⟩ = some (.slice ao i cap) ∧ (∀ j,w2.frozen? ⟨w.heap.size + 2,j,none⟩ = false) ∧ Hid (w2.ownsRow (w.heap.size + 3) 26 6 (.slice ao i cap) i xs) := fun W' hb' => by
    refine (cP W' hb').mono ?_
    rintro e w' ⟨h1,lv',rfl,h3⟩
    have h4 := h3
    obtain ⟨⟨a3,c3,rfl,_⟩,_⟩ := h4
    have hbx := cells_six ((h1.block _ (by omega)).trans HI.out.box)
    have hbv := cells_six ((h1.block _ (by omega)).trans HI.out.val)
    have hown := HI.out.own
    rw [htl] at hown
    exact ⟨a3,c3,rfl,Lib.hid h1,Lib.hid h3,hbx.1.2.2.2.2.1,hbv.1.2.2.2.2.1,hbv.2,Lib.hid (ownsRow_same hown fun g hg => h1.block g (row_lt hown g hg).2)⟩
   obtain ⟨⟨q0,q1,q2,q3,q4,q5⟩,qf⟩ := cells_six HI.out.val
   have hbg : some (w.heap.size + 2) ≠ (Value.slice ao i cap).ownBlock := fun h => by
    have := row_lt HI.out.own _ h.symm
    omega
   have HTK := Lib.hid htk
   have HTL := Lib.hid htl
   have hHz : w.heap.size + 3 ≤ wr.heap.size := hzr
   clear htk htl cP he hv' hsm hL hc
   go_wp2_with fail
   go_region_law (first
    | (refine step_append_lies _ (by rfl) _ _ _ (by rfl) (w.heap.size + 3) 26 i0 _ 6 88 Tryz.underlying23 hi0 hz0 hz1 hz2 rfl (by omega) (.slice ao i cap) i xs (by rfl) (HO2.out.alloc _) ⟨w2.heap.size,0,none⟩ 1 1 [.int .i64 so',.bool on',.int .i64 n',.string ⟨t'.toArray⟩,.slice a3 l'.length c3,.slice a2' ks'.length c2'] (by rfl) (by rfl) (World.news_of_block (cs := #[.int .i64 so',.bool on',.int .i64 n',.string ⟨t'.toArray⟩,.slice a3 l'.length c3,.slice a2' ks'.length c2']) (t := 26) (fr := (0,0)) (heap_alloc_new w2 _)) (oneCell_six so' n' on' t' a3 a2' l'.length c3 ks'.length c2') (by omega) (by unfold maxLen; omega) (by omega) (by simp; omega) (w2.heap.size + 1) (by simp) ?_; intro gg capg w3 hown3 hgrow hat hlt3; have kb3 := (hgrow.cell_far ⟨w.heap.size + 2,4,none⟩ (by simp; omega) hbg).trans ((World.cell?_alloc_past _ _ _ hbt2).trans q4'); have fb3 := (hgrow.frozen_far ⟨w.heap.size + 2,4,none⟩ (by simp; omega) hbg).trans ((World.frozen?_alloc_past _ _ _ hbt2).trans (qf' 4)))
    | (go_simp; refine (hcP _ (by exact ⟨rfl,rfl,rfl,Nat.le_refl _,fun _ _ => rfl⟩)).mono ?_; rintro e w2 ⟨a3,c3,rfl,HB2,HV2,k4',q4',qf',HO2⟩; have hbt2 : w.heap.size + 2 < w2.heap.size := by have := HB2.out.size; omega))
   all_goals
    have hfin := to_step HI.out HTL.out hB HB2.out HV2.out hgrow hown3 hat
    have HFIN := Lib.hid hfin
    clear hfin hown3 hgrow hat kb3 fb3 k4' q4' qf' k0 k1 k2 k3 k4 k5 kf j0 j1 j2 j3 j4 j5 q0 q1 q2 q3 q4 q5 qf hcP
    go_wp2_with fail
    go_roundw
    case rel => exact ⟨i + 1,some ⟨gg,0,none⟩,capg,_,by go_num,by omega,Lib.hid (by rw [HTK.out]; exact HFIN.out)⟩
    case measure => simp [Go.RowKit.intOf]; omega
  ·have hil : i = ln := by omega
   have htk : l.take i = l := List.take_of_length_le (by rw [HLN.out]; omega)
   have hst := HI.out
   rw [htk,hil] at hst
   have hv := HV.out
   obtain ⟨_,hkk⟩ := hv
   rw [HKN.out] at hkk
   have HEND := Lib.hid (to_end hst hkk)
   have HST2 := Lib.hid hst
   obtain ⟨⟨q0,q1,q2,q3,q4,q5⟩,qf⟩ := cells_six hst.val
   obtain ⟨⟨r0,r1,r2,r3,r4,r5⟩,rf⟩ := cells_six hst.res
   obtain ⟨hp1,hp2⟩ := six_put' hst.res (.int .i64 so) (.bool on) (.int .i64 n) (.string ⟨t.toArray⟩) (.slice ao ln cap) (.slice a2 kn c2)
   have hmb := (mut6 (d := w.heap.size) (w.heap.size + 1) (.int .i64 so) (.bool on) (.int .i64 n) (.string ⟨t.toArray⟩) (.slice ao ln cap) (.slice a2 kn c2) (Mut.of_below (d := w.heap.size) hst.below) (by omega)).below (Nat.le_refl _)
   have hsv : ∀ g,(g < B ∨ w.heap.size + 3 ≤ g) → g < wr.heap.size → ((((((wr.setCell ⟨w.heap.size + 1,0,none⟩ (.int .i64 so)).setCell ⟨w.heap.size + 1,1,none⟩ (.bool on)).setCell ⟨w.heap.size + 1,2,none⟩ (.int .i64 n)).setCell ⟨w.heap.size + 1,3,none⟩ (.string ⟨t.toArray⟩)).setCell ⟨w.heap.size + 1,4,none⟩ (.slice ao ln cap)).setCell ⟨w.heap.size + 1,5,none⟩ (.slice a2 kn c2)).heap[g]? = wr.heap[g]? := fun g hg _ => hp2 g (by omega)
   have HP1 := Lib.hid hp1
   have HMB := Lib.hid hmb
   have HVE := Lib.hid (ValIn.later (R' := fun g => g < B ∨ w.heap.size ≤ g) hsv (fun g hg => hg.imp id (fun h => by omega)) _ _ _ HEND.out)
   clear hst hkk htk HI hp1 hp2 hmb hsv HEND
   go_wp2_with fail
   (try simp only [Exit.inBlock,Exit.then])
   refine bodyPost_ret (v := .agg #[.int .i64 so,.bool on,.int .i64 n,.string ⟨t.toArray⟩,.slice ao ln cap,.slice a2 kn c2]) (results_cell_row rfl _ _ (w.heap.size + 1) 26 #[.int .i64 so,.bool on,.int .i64 n,.string ⟨t.toArray⟩,.slice ao ln cap,.slice a2 kn c2] (0,0) _ (by rfl) HP1.out Tryz.underlying26 rfl (by kernel_rfl)) rfl ⟨HMB.out,.slice ao ln cap,rfl,HVE.out⟩
end Go.Proofs.YtcfdalbdndamoaaGreatDoor.V
namespace Go.Proofs.YtcfdalbdndamoaaGreatDoor.V
open Go.RowKit
open Go.Lib
mutual
theorem wt_of_size : ∀ v,sizeV v ≤ 400 → wt v = sizeV v
 | .mk so on n t l ks,h => by
  simp only [sizeV] at h ⊢
  have h2 := wt_of_sizeL l _ h
  have e : (ks.map fun k => k.length + 1).sum = sumK ks := rfl
  simp only [wt,e]
  omega
theorem wt_of_sizeL : ∀ (l : List Val) (n : Nat),sizeLs l n ≤ 400 → sizeLs l n = n + wtL l
 | [],n,h => by simp [sizeLs,wtL]
 | v :: r,n,h => by
  simp only [sizeLs] at h ⊢
  by_cases hn : n ≤ 400
  ·rw [if_pos hn] at h ⊢
   have h2 := wt_of_sizeL r _ h
   have h1 := wt_of_size v (by omega)
   simp only [wtL]
   omega
  ·rw [if_neg hn] at h
   omega
end
section
variable {so n so' n' : Int} {on on' : Bool} {t t' : List UInt8} {l l' : List Val} {ks ks' : List (List UInt8)}
theorem val_here {W : World} {v : Val} {lv kv : Value} (h : ValIn W (fun _ => True) v lv kv) : ValIn W (fun g => g < W.heap.size) v lv kv := (ValIn.bound _ _ _ h).later (fun _ _ _ => rfl) (fun _ h => h.2) _ _ _
theorem of_v2 {v : Val} {lv kv : Value} {w1 : World} (h : ValIn w1 (fun _ => True) v lv kv) (hw : wt v ≤ 1099511627776) (W : World) (hb : Below w1.heap.size w1 W) :
  Calls Tryz.prog 20 #[arg v lv kv] W fun e w' => Below W.heap.size W w' ∧ ∃ lv',e = .returned (arg v lv' kv) ∧ ValIn w' (fun _ => True) v lv' kv := by
 refine (of_v v lv kv W.heap.size W (val_here (val_below h hb)) (Nat.le_refl _) hw).mono ?_
 rintro e w' ⟨h1,lv',h2,h3⟩
 exact ⟨h1,lv',h2,h3.later (fun _ _ _ => rfl) (fun _ _ => trivial) _ _ _⟩
end
theorem to_v2 {v : Val} {lv kv : Value} {w1 : World} (h : ValIn w1 (fun _ => True) v lv kv) (hw : wt v ≤ 1099511627776) (W : World) (hb : Below w1.heap.size w1 W) :
  Calls Tryz.prog 12 #[arg v lv kv] W fun e w' => Below W.heap.size W w' ∧ ∃ lv',e = .returned (arg v lv' kv) ∧ ValIn w' (fun _ => True) v lv' kv := by
 refine (to_v v lv kv W.heap.size W (val_here (val_below h hb)) (Nat.le_refl _) hw).mono ?_
 rintro e w' ⟨h1,lv',h2,h3⟩
 exact ⟨h1,lv',h2,h3.later (fun _ _ _ => rfl) (fun _ _ => trivial) _ _ _⟩
theorem getP_wt : ∀ (p : List (List UInt8)) (v u : Val),getP v p = some u → wt u ≤ wt v
 | [],v,u,h => by
  have h : some v = some u := by cases v; simpa [getP] using h
  injection h with h
  rw [h]
  exact Nat.le_refl _
 | x :: p,.mk so on n t l ks,u,h => by
  by_cases hc : so = 5 ∧ ks.idxOf x < l.length ∧ ks.idxOf x < ks.length
  ·rw [getP_step hc.1 hc.2.1 hc.2.2] at h
   have h1 := getP_wt p _ u h
   have h2 : wt l[ks.idxOf x] ≤ wtL l := wtL_mem (List.getElem_mem hc.2.1)
   simp only [wt]
   omega
  ·rw [getP_no hc] at h
   cases h
end Go.Proofs.YtcfdalbdndamoaaGreatDoor.V
namespace Go.Proofs.YtcfdalbdndamoaaGreatDoor.M
open Go.Lib Go.Proofs.YtcfdalbdndamoaaGreatDoor.V
def sortOf : Val → Int | .mk so _ _ _ _ _ => so
def numOf : Val → Int | .mk _ _ n _ _ _ => n
def textOf : Val → List UInt8 | .mk _ _ _ t _ _ => t
def listOf : Val → List Val | .mk _ _ _ _ l _ => l
structure PlaceP where
 line : Int
 unit : Int
structure EditP where
 frm : PlaceP
 til : PlaceP
 text : List UInt8
 whole : Bool
structure CallP where
 kind : Int
 id : Val
 name : List UInt8
 version : Int
 text : List UInt8
 changes : List EditP
 place : PlaceP
 other : Val
def zV : Val := .mk 0 false 0 [] [] []
def p0 : PlaceP := ⟨0,0⟩
def call0 (k : Int) (id : Val) : CallP := ⟨k,id,[],0,[],[],p0,zV⟩
def bJsonrpc : List UInt8 := [106,115,111,110,114,112,99]
def bTwo : List UInt8 := [50,46,48]
def bId : List UInt8 := [105,100]
def bMethod : List UInt8 := [109,101,116,104,111,100]
def bParams : List UInt8 := [112,97,114,97,109,115]
def bDoc : List UInt8 := [116,101,120,116,68,111,99,117,109,101,110,116]
def bUri : List UInt8 := [117,114,105]
def bVersion : List UInt8 := [118,101,114,115,105,111,110]
def bText : List UInt8 := [116,101,120,116]
def bChanges : List UInt8 := [99,111,110,116,101,110,116,67,104,97,110,103,101,115]
def bRange : List UInt8 := [114,97,110,103,101]
def bStart : List UInt8 := [115,116,97,114,116]
def bEnd : List UInt8 := [101,110,100]
def bLine : List UInt8 := [108,105,110,101]
def bChar : List UInt8 := [99,104,97,114,97,99,116,101,114]
def bPos : List UInt8 := [112,111,115,105,116,105,111,110]
def bInit : List UInt8 := [105,110,105,116,105,97,108,105,122,101]
def bShut : List UInt8 := [115,104,117,116,100,111,119,110]
def bExit : List UInt8 := [101,120,105,116]
def bOpen : List UInt8 := bDoc ++ [47,100,105,100,79,112,101,110]
def bChange : List UInt8 := bDoc ++ [47,100,105,100,67,104,97,110,103,101]
def bClose : List UInt8 := bDoc ++ [47,100,105,100,67,108,111,115,101]
def bHover : List UInt8 := bDoc ++ [47,104,111,118,101,114]
def bPull : List UInt8 := bDoc ++ [47,100,105,97,103,110,111,115,116,105,99]
def bCancel : List UInt8 := [36,47,99,97,110,99,101,108,82,101,113,117,101,115,116]
def methodP (k : Int) : List UInt8 :=
 if k = 1 then bInit else if k = 2 then bShut else if k = 3 then bExit else if k = 4 then bOpen else if k = 5 then bChange
 else if k = 6 then bClose else if k = 7 then bHover else if k = 8 then bPull else if k = 9 then bCancel else []
def reqP (k : Int) : Bool := k == 1 || k == 2 || k == 7 || k == 8
def getZ (v : Val) (p : List (List UInt8)) : Val := (getP v p).getD zV
def hasP (v : Val) (p : List (List UInt8)) : Bool := (getP v p).isSome
def isText (v : Val) (p : List (List UInt8)) : Bool := hasP v p && sortOf (getZ v p) == 3
def isNum (v : Val) (p : List (List UInt8)) : Bool := hasP v p && sortOf (getZ v p) == 2
def textAt (v : Val) (p : List (List UInt8)) : List UInt8 := textOf (getZ v p)
def numAt (v : Val) (p : List (List UInt8)) : Int := numOf (getZ v p)
def idP (v : Val) : Bool := sortOf v == 2 || sortOf v == 3
def placeOk (v : Val) (p : List (List UInt8)) : Bool := hasP v p && isNum (getZ v p) [bLine] && isNum (getZ v p) [bChar]
def placeAt (v : Val) (p : List (List UInt8)) : PlaceP := ⟨numAt (getZ v p) [bLine],numAt (getZ v p) [bChar]⟩
def changeAt (v : Val) : EditP :=
 if hasP v [bRange] then ⟨placeAt v [bRange,bStart],placeAt v [bRange,bEnd],textAt v [bText],false⟩ else ⟨p0,p0,textAt v [bText],true⟩
def changeOk (v : Val) : Bool := isText v [bText] && (if hasP v [bRange] then placeOk v [bRange,bStart] && placeOk v [bRange,bEnd] else true)
def changesAt (p : Val) : List EditP := (listOf (getZ p [bChanges])).map changeAt
def changesOk (p : Val) : Bool := hasP p [bChanges] && sortOf (getZ p [bChanges]) == 4 && (listOf (getZ p [bChanges])).all changeOk
def paramsP (k : Int) (id p : Val) : CallP :=
 if k ≤ 3 then call0 k id
 else if k = 9 then { call0 k id with other := getZ p [bId] }
 else
  { kind := k,id := id,name := textAt p [bDoc,bUri],version := if k = 4 ∨ k = 5 then numAt p [bDoc,bVersion] else 0,text := if k = 4 then textAt p [bDoc,bText] else [],
    changes := if k = 5 then changesAt p else [],place := if k = 7 then placeAt p [bPos] else p0,other := zV }
def paramsOk (k : Int) (p : Val) : Bool :=
 if k ≤ 3 then true
 else if k = 9 then hasP p [bId] && idP (getZ p [bId])
 else isText p [bDoc,bUri] && (if k = 4 ∨ k = 5 then isNum p [bDoc,bVersion] else true) && (if k = 4 then isText p [bDoc,bText] else true) && (if k = 5 then changesOk p else true) && (if k = 7 then placeOk p [bPos] else true)
def kindP (name : List UInt8) (has : Bool) : Int :=
 if name = bInit ∧ has = true then 1 else if name = bShut ∧ has = true then 2 else if name = bExit ∧ has = false then 3 else if name = bOpen ∧ has = false then 4
 else if name = bChange ∧ has = false then 5 else if name = bClose ∧ has = false then 6 else if name = bHover ∧ has = true then 7 else if name = bPull ∧ has = true then 8
 else if name = bCancel ∧ has = false then 9 else 0
def wrongP (v : Val) : Bool :=
 !isText v [bJsonrpc] || !decide (textAt v [bJsonrpc] = bTwo) || !isText v [bMethod] || (hasP v [bId] && !idP (getZ v [bId])) || (hasP v [bParams] && !(sortOf (getZ v [bParams]) == 5) && !(sortOf (getZ v [bParams]) == 4))
def readM (v : Val) : CallP × Int :=
 if wrongP v then (call0 0 zV,42)
 else if kindP (textAt v [bMethod]) (hasP v [bId]) = 0 then (call0 0 (getZ v [bId]),43)
 else if paramsOk (kindP (textAt v [bMethod]) (hasP v [bId])) (getZ v [bParams]) then (paramsP (kindP (textAt v [bMethod]) (hasP v [bId])) (getZ v [bId]) (getZ v [bParams]),0)
 else (call0 (kindP (textAt v [bMethod]) (hasP v [bId])) (getZ v [bId]),44)
def recP (ks : List (List UInt8)) (l : List Val) : Val := .mk 5 false 0 [] l ks
def strP (t : List UInt8) : Val := .mk 3 false 0 t [] []
def numP (n : Int) : Val := .mk 2 false n [] [] []
def atPlace (p : PlaceP) : Val := recP [bLine,bChar] [numP p.line,numP p.unit]
def editV (e : EditP) : Val := if e.whole then recP [bText] [strP e.text] else recP [bText,bRange] [strP e.text,recP [bStart,bEnd] [atPlace e.frm,atPlace e.til]]
def listV (l : List EditP) : Val := .mk 4 false 0 [] (l.map editV) []
def docV (c : CallP) : Val :=
 recP ([bUri] ++ (if c.kind = 4 ∨ c.kind = 5 then [bVersion] else []) ++ (if c.kind = 4 then [bText] else []))
  ([strP c.name] ++ (if c.kind = 4 ∨ c.kind = 5 then [numP c.version] else []) ++ (if c.kind = 4 then [strP c.text] else []))
def toldV (c : CallP) : Val :=
 if c.kind = 9 then recP [bId] [c.other]
 else if c.kind = 5 then recP [bDoc,bChanges] [docV c,listV c.changes]
 else if c.kind = 7 then recP [bDoc,bPos] [docV c,atPlace c.place]
 else recP [bDoc] [docV c]
theorem getP_top (v : Val) : getP v [] = some v := by cases v; simp only [getP]
theorem getP_hit (k : List UInt8) (ks : List (List UInt8)) (v : Val) (l : List Val) (p : List (List UInt8)) : getP (recP (k :: ks) (v :: l)) (k :: p) = getP v p := by
 simp [recP,getP]
theorem getP_skip {k k' : List UInt8} (h : k' ≠ k) (ks : List (List UInt8)) (v : Val) (l : List Val) (p : List (List UInt8)) : getP (recP (k' :: ks) (v :: l)) (k :: p) = getP (recP ks l) (k :: p) := by
 have h3 : (k' == k) = false := beq_eq_false_iff_ne.2 h
 simp only [recP,getP,if_true,List.idxOf_cons,h3,cond_false,List.length_cons,List.getElem?_cons_succ,Nat.add_lt_add_iff_right]
theorem getP_none (k : List UInt8) (p : List (List UInt8)) : getP (recP [] []) (k :: p) = none := by simp [recP,getP]
theorem getP_zero (k : List UInt8) (p : List (List UInt8)) : getP zV (k :: p) = none := by simp [zV,getP]
def editOk (e : EditP) : Prop := e.whole = true → e.frm = p0 ∧ e.til = p0
structure Canon (c : CallP) : Prop where
 low : 1 ≤ c.kind
 high : c.kind ≤ 9
 req : reqP c.kind = true → idP c.id = true
 note : reqP c.kind = false → c.id = zV
 name : c.kind ≤ 3 ∨ c.kind = 9 → c.name = []
 version : c.kind ≠ 4 → c.kind ≠ 5 → c.version = 0
 text : c.kind ≠ 4 → c.text = []
 changes : c.kind ≠ 5 → c.changes = []
 place : c.kind ≠ 7 → c.place = p0
 other : c.kind ≠ 9 → c.other = zV
 cancel : c.kind = 9 → idP c.other = true
 edits : ∀ e ∈ c.changes,editOk e
theorem text_back {v : Val} {ks : List (List UInt8)} {t : List UInt8} (h : getP v ks = some (strP t)) : isText v ks = true ∧ textAt v ks = t := by
 simp [isText,hasP,getZ,textAt,h,strP,sortOf,textOf]
theorem has_none {v : Val} {ks : List (List UInt8)} (h : getP v ks = none) : hasP v ks = false ∧ getZ v ks = zV := by simp [hasP,getZ,h]
def bResult : List UInt8 := [114,101,115,117,108,116]
def bError : List UInt8 := [101,114,114,111,114]
def bCode : List UInt8 := [99,111,100,101]
def bMsg : List UInt8 := [109,101,115,115,97,103,101]
def replyV (i r : Val) : Val := recP [bJsonrpc,bId,bResult] [strP bTwo,i,r]
def failV (i : Val) (n : Int) (m : List UInt8) : Val := recP [bJsonrpc,bId,bError] [strP bTwo,i,recP [bCode,bMsg] [numP n,strP m]]
def noteV (m : List UInt8) (p : Val) : Val := recP [bJsonrpc,bMethod,bParams] [strP bTwo,strP m,p]
theorem reply_none (i r : Val) : (readM (replyV i r)).2 = 42 := by
 have l : getP (replyV i r) [bMethod] = none := by
  unfold replyV
  rw [getP_skip (by decide),getP_skip (by decide),getP_skip (by decide),getP_none]
 have hb := (has_none l).1
 unfold readM
 rw [if_pos (by simp [wrongP,isText,hb])]
theorem fail_none (i : Val) (n : Int) (m : List UInt8) : (readM (failV i n m)).2 = 42 := by
 have l : getP (failV i n m) [bMethod] = none := by
  unfold failV
  rw [getP_skip (by decide),getP_skip (by decide),getP_skip (by decide),getP_none]
 have hb := (has_none l).1
 unfold readM
 rw [if_pos (by simp [wrongP,isText,hb])]
def bPublish : List UInt8 := bDoc ++ [47,112,117,98,108,105,115,104,68,105,97,103,110,111,115,116,105,99,115]
theorem publish_kind (has : Bool) : kindP bPublish has = 0 := by cases has <;> decide
theorem note_none (p : Val) : (readM (noteV bPublish p)).2 = 42 ∨ (readM (noteV bPublish p)).2 = 43 := by
 have l : getP (noteV bPublish p) [bMethod] = some (strP bPublish) := by
  unfold noteV
  rw [getP_skip (by decide),getP_hit,getP_top]
 have ht := (text_back l).2
 unfold readM
 by_cases hw : wrongP (noteV bPublish p) = true
 ·rw [if_pos hw]; exact .inl rfl
 ·rw [if_neg hw,ht,if_pos (publish_kind _)]; exact .inr rfl
end Go.Proofs.YtcfdalbdndamoaaGreatDoor.M
namespace Go.Proofs.YtcfdalbdndamoaaGreatDoor.M
open Go.RowKit
open Go.Lib Go.Proofs.YtcfdalbdndamoaaGreatDoor.V
def PartsL (W : World) (R : Nat → Prop) : List (List UInt8 × Val) → List Value → Prop
 | [],xs => xs = []
 | (k,v) :: r,xs => ∃ lv kv rest,xs = strCell k :: six' v lv kv ++ rest ∧ ValIn W R v lv kv ∧ PartsL W R r rest
def PartsAt (W : World) (R : Nat → Prop) (ps : List (List UInt8 × Val)) (g off : Nat) : Prop := ∃ xs,CellsAt W g off xs ∧ PartsL W R ps xs
theorem PartsL.later {W W' : World} {R R' : Nat → Prop} (hs : Same R W W') (hR : ∀ g,R g → R' g) : ∀ (ps : List (List UInt8 × Val)) (xs : List Value),PartsL W R ps xs → PartsL W' R' ps xs
 | [],xs,h => h
 | (k,v) :: r,xs,h => by
  obtain ⟨lv,kv,rest,h1,h2,h3⟩ := h
  exact ⟨lv,kv,rest,h1,ValIn.later hs hR v lv kv h2,PartsL.later hs hR r rest h3⟩
theorem PartsL.length {W : World} {R : Nat → Prop} : ∀ {ps : List (List UInt8 × Val)} {xs : List Value},PartsL W R ps xs → xs.length = 7 * ps.length
 | [],xs,h => by have h : xs = [] := h; subst h; rfl
 | (k,v) :: r,xs,h => by
  obtain ⟨lv,kv,rest,rfl,_,h3⟩ := h
  have := PartsL.length h3
  simp only [List.cons_append,List.length_cons,List.length_append,six_length,this]; omega
theorem PartsL.one {W : World} {R : Nat → Prop} : ∀ {ps : List (List UInt8 × Val)} {xs : List Value},PartsL W R ps xs → ∀ u ∈ xs,u.oneCell' = true
 | [],xs,h,u,hu => by
  have h : xs = [] := h
  subst h; cases hu
 | (k,.mk so on n t l' ks) :: r,xs,h,u,hu => by
  obtain ⟨lv,kv,rest,rfl,hv,hr⟩ := h
  obtain ⟨⟨a1,c1,rfl,_⟩,⟨a2,c2,rfl,_⟩⟩ := hv
  rcases List.mem_append.1 hu with h1 | h1
  ·simp only [six',six,strCell,List.mem_cons,List.not_mem_nil,or_false] at h1
   rcases h1 with rfl | rfl | rfl | rfl | rfl | rfl | rfl <;> rfl
  ·exact PartsL.one hr u h1
theorem PartsL.append {W : World} {R : Nat → Prop} : ∀ {ps qs : List (List UInt8 × Val)} {xs ys : List Value},PartsL W R ps xs → PartsL W R qs ys → PartsL W R (ps ++ qs) (xs ++ ys)
 | [],qs,xs,ys,h,h' => by
  have h : xs = [] := h
  subst h; exact h'
 | (k,v) :: r,qs,xs,ys,h,h' => by
  obtain ⟨lv,kv,rest,rfl,hv,hr⟩ := h
  exact ⟨lv,kv,rest ++ ys,by simp,hv,PartsL.append hr h'⟩
theorem PartsL.bound {W : World} {R : Nat → Prop} : ∀ (ps : List (List UInt8 × Val)) (xs : List Value),PartsL W R ps xs → PartsL W (fun g => R g ∧ g < W.heap.size) ps xs
 | [],xs,h => h
 | (k,v) :: r,xs,h => by
  obtain ⟨lv,kv,rest,h1,h2,h3⟩ := h
  exact ⟨lv,kv,rest,h1,ValIn.bound v lv kv h2,PartsL.bound r rest h3⟩
theorem parts_at {W : World} {R : Nat → Prop} : ∀ {ps : List (List UInt8 × Val)} {xs : List Value} {g off : Nat} (i : Nat),PartsL W R ps xs → CellsAt W g off xs → (hi : i < ps.length) →
  ∃ so on n t l' ks a1 c1 a2 c2,ps[i].2 = .mk so on n t l' ks ∧ ValIn W R (.mk so on n t l' ks) (.slice a1 l'.length c1) (.slice a2 ks.length c2) ∧
   W.cell? ⟨g,off + i * 7,none⟩ = some (.string ⟨(ps[i].1).toArray⟩) ∧ W.cell? ⟨g,off + i * 7 + 1,none⟩ = some (.int .i64 so) ∧ W.cell? ⟨g,off + i * 7 + 2,none⟩ = some (.bool on) ∧ W.cell? ⟨g,off + i * 7 + 3,none⟩ = some (.int .i64 n) ∧ W.cell? ⟨g,off + i * 7 + 4,none⟩ = some (.string ⟨t.toArray⟩) ∧
   W.cell? ⟨g,off + i * 7 + 5,none⟩ = some (.slice a1 l'.length c1) ∧ W.cell? ⟨g,off + i * 7 + 6,none⟩ = some (.slice a2 ks.length c2)
 | [],_,_,_,i,_,_,hi => absurd hi (Nat.not_lt_zero _)
 | (k,.mk so on n t l' ks) :: r,xs,g,off,0,h,hc,_ => by
  obtain ⟨lv,kv,rest,rfl,hv,_⟩ := h
  have hv' := hv
  obtain ⟨⟨a1,c1,rfl,_⟩,⟨a2,c2,rfl,_⟩⟩ := hv'
  refine ⟨so,on,n,t,l',ks,a1,c1,a2,c2,rfl,hv,?_,?_,?_,?_,?_,?_,?_⟩
  ·exact hc 0 _ rfl
  ·exact hc 1 _ rfl
  ·exact hc 2 _ rfl
  ·exact hc 3 _ rfl
  ·exact hc 4 _ rfl
  ·exact hc 5 _ rfl
  ·exact hc 6 _ rfl
 | (k,v) :: r,xs,g,off,i + 1,h,hc,hi => by
  obtain ⟨lv,kv,rest,rfl,_,hr⟩ := h
  have hc' : CellsAt W g (off + 7) rest := fun j u hj => by
   have := hc (7 + j) u (by rw [List.getElem?_append_right (by simp only [List.length_cons,six_length]; omega)]; simp only [List.length_cons,six_length]; simpa using hj)
   rwa [show off + 7 + j = off + (7 + j) by omega]
  have := parts_at i hr hc' (by simpa using hi)
  simpa [show off + 7 + i * 7 = off + (i + 1) * 7 by omega] using this
theorem leaf_in (W : World) (R : Nat → Prop) (so : Int) (on : Bool) (n : Int) (t : List UInt8) : ValIn W R (.mk so on n t [] []) (.slice none 0 0) (.slice none 0 0) := ⟨⟨none,0,rfl,.inl rfl⟩,⟨none,0,rfl,.inl rfl⟩⟩
theorem text_any (s : ByteArray) (w : World) :
  Calls Tryz.prog 31 #[.string s] w fun e w' => e = .returned (.agg #[.int .i64 3,.bool false,.int .i64 0,.string s,.slice none 0 0,.slice none 0 0]) ∧ Below w.heap.size w w' := by
 go_enter Tryz.func31,Tryz.ntmps31
 go_wp2_with fail
 (try simp only [Exit.inBlock,Exit.then])
 refine bodyPost_ret (v := .agg #[.int .i64 3,.bool false,.int .i64 0,.string s,.slice none 0 0,.slice none 0 0]) (by simp [results,Tryz.results31,go_sem]) rfl ?_
 exact ⟨rfl,(Below.refl _ _).alloc (Nat.le_refl _) _⟩
theorem number_any (n : Int) (w : World) :
  Calls Tryz.prog 51 #[.int .i64 n] w fun e w' => e = .returned (.agg #[.int .i64 2,.bool false,.int .i64 n,.string ⟨#[]⟩,.slice none 0 0,.slice none 0 0]) ∧ Below w.heap.size w w' := by
 go_enter Tryz.func51,Tryz.ntmps51
 go_wp2_with fail
 (try simp only [Exit.inBlock,Exit.then])
 refine bodyPost_ret (v := .agg #[.int .i64 2,.bool false,.int .i64 n,.string ⟨#[]⟩,.slice none 0 0,.slice none 0 0]) (by simp [results,Tryz.results51,go_sem]) rfl ?_
 exact ⟨rfl,(Below.refl _ _).alloc (Nat.le_refl _) _⟩
structure RcSt (R : Nat → Prop) (ks : List (List UInt8)) (l : List Val) (lv kv : Value) (xs : List Value) (i : Nat) (w wr : World) : Prop where
 below : Below w.heap.size w wr
 size : w.heap.size + 2 ≤ wr.heap.size
 res : wr.heap[w.heap.size]? = some (.cells #[.int .i64 0,.bool false,.int .i64 0,.string ⟨#[]⟩,.slice none 0 0,.slice none 0 0] 36 (0,0))
 box : wr.heap[w.heap.size + 1]? = some (.cells #[.int .i64 5,.bool false,.int .i64 0,.string ⟨#[]⟩,lv,kv] 36 (0,0))
 keys : wr.ownsRow (w.heap.size + 2) 9 1 kv i ((ks.take i).map strCell)
 own : wr.ownsRow (w.heap.size + 2) 36 6 lv i xs
 parts : ListIn wr (fun g => R g ∧ g < w.heap.size) (l.take i) xs
theorem owns_block {w : World} {B e size n : Nat} {v : Value} {xs : List Value} (h : w.ownsRow B e size v n xs) {k : Nat} (hk : v.ownBlock = some k) : ∃ cur : Array Value,w.heap[k]? = some (.cells cur e (0,0)) := by
 rcases h.2 with ⟨rfl,_⟩ | ⟨g,cap,cur,rfl,hb,hg,_⟩
 ·simp [Value.ownBlock] at hk
 ·simp [Value.ownBlock] at hk
  subst hk
  exact ⟨cur,hg⟩
theorem owns_apart {w : World} {B B' e e' n n' size size' : Nat} {v v' : Value} {xs xs' : List Value} (h : w.ownsRow B e size v n xs) (h' : w.ownsRow B' e' size' v' n' xs') (he : e ≠ e') {k : Nat} (hk : v.ownBlock = some k) : some k ≠ v'.ownBlock := by
 intro hk'
 obtain ⟨c1,h1⟩ := owns_block h hk
 obtain ⟨c2,h2⟩ := owns_block h' hk'.symm
 rw [h1] at h2
 injection h2 with h2
 injection h2 with _ h3
 exact he h3
theorem rc_step {R : Nat → Prop} {ks : List (List UInt8)} {l : List Val} {lv kv : Value} {xs : List Value} {i gk ck gl cl : Nat} {w wr w3 w5 : World} {P z1 z2 : Obj} {a b : Value}
  (hst : RcSt R ks l lv kv xs i w wr) (hi : i < l.length) (hik : i < ks.length)
  (hk3 : w3.ownsRow (w.heap.size + 2) 9 1 (.slice (some ⟨gk,0,none⟩) (i + 1) ck) (i + 1) ((ks.take i).map strCell ++ [strCell ks[i]]))
  (hg3 : ((wr.alloc P).alloc z1).grownBy w3 kv.ownBlock)
  (hl5 : w5.ownsRow (w.heap.size + 2) 36 6 (.slice (some ⟨gl,0,none⟩) (i + 1) cl) (i + 1) (xs ++ six' l[i] a b))
  (hg5 : ((w3.setCell ⟨w.heap.size + 1,5,none⟩ (.slice (some ⟨gk,0,none⟩) (i + 1) ck)).alloc z2).grownBy w5 lv.ownBlock)
  (hv : ValIn w (fun g => R g ∧ g < w.heap.size) l[i] a b) :
  RcSt R ks l (.slice (some ⟨gl,0,none⟩) (i + 1) cl) (.slice (some ⟨gk,0,none⟩) (i + 1) ck) (xs ++ six' l[i] a b) (i + 1) w (w5.setCell ⟨w.heap.size + 1,4,none⟩ (.slice (some ⟨gl,0,none⟩) (i + 1) cl)) := by
 have hz := hst.size
 have hs3 := hg3.size
 have hs5 := hg5.size
 simp only [World.size_alloc,sc_size] at hs3 hs5
 have hkr : ∀ k,kv.ownBlock = some k → w.heap.size + 2 ≤ k ∧ k < wr.heap.size := fun k hk => row_lt hst.keys k hk
 have hlr : ∀ k,lv.ownBlock = some k → w.heap.size + 2 ≤ k ∧ k < wr.heap.size := fun k hk => row_lt hst.own k hk
 have far3 : ∀ k,k < wr.heap.size → kv.ownBlock ≠ some k → w3.heap[k]? = wr.heap[k]? := fun k hk hne => by
  rw [hg3.block k (by simp; omega) (fun h => hne h.symm),Below.heap_alloc _ z1 k (by simp; omega),Below.heap_alloc wr P k hk]
 have far4 : ∀ k,k ≠ w.heap.size + 1 → (w3.setCell ⟨w.heap.size + 1,5,none⟩ (.slice (some ⟨gk,0,none⟩) (i + 1) ck)).heap[k]? = w3.heap[k]? := fun k hk => Below.heap_setCell _ _ _ _ hk
 have far5 : ∀ k,k < w3.heap.size → lv.ownBlock ≠ some k → w5.heap[k]? = (w3.setCell ⟨w.heap.size + 1,5,none⟩ (.slice (some ⟨gk,0,none⟩) (i + 1) ck)).heap[k]? := fun k hk hne => by
  rw [hg5.block k (by simp only [World.size_alloc,sc_size]; omega) (fun h => hne h.symm),Below.heap_alloc _ z2 k (by rw [sc_size]; omega)]
 have far6 : ∀ k,k ≠ w.heap.size + 1 → (w5.setCell ⟨w.heap.size + 1,4,none⟩ (.slice (some ⟨gl,0,none⟩) (i + 1) cl)).heap[k]? = w5.heap[k]? := fun k hk => Below.heap_setCell _ _ _ _ hk
 have hl3 : w3.ownsRow (w.heap.size + 2) 36 6 lv i xs := ownsRow_same hst.own fun g hg => far3 g (hlr g hg).2 (fun h => owns_apart hst.own hst.keys (by decide) hg h.symm)
 have hgkr := row_lt hk3 gk rfl
 have hgl : lv.ownBlock ≠ some gk := fun h => owns_apart hl3 hk3 (by decide) h rfl
 have low : ∀ k,k < w.heap.size + 1 → (w5.setCell ⟨w.heap.size + 1,4,none⟩ (.slice (some ⟨gl,0,none⟩) (i + 1) cl)).heap[k]? = wr.heap[k]? := fun k hk => by
  rw [far6 k (by omega),far5 k (by omega) (fun h => by have := hlr k h; omega),far4 k (by omega),far3 k (by omega) (fun h => by have := hkr k h; omega)]
 have hbox3 : w3.heap[w.heap.size + 1]? = _ := (far3 (w.heap.size + 1) (by omega) (fun h => by have := hkr _ h; omega)).trans hst.box
 have hbox4 := Go.Joins.block_setCell (i := 5) hbox3 (.slice (some ⟨gk,0,none⟩) (i + 1) ck)
 have hbox5 := (far5 (w.heap.size + 1) (by omega) (fun h => by have := hlr _ h; omega)).trans hbox4
 have hbox6 := Go.Joins.block_setCell (i := 4) hbox5 (.slice (some ⟨gl,0,none⟩) (i + 1) cl)
 refine ⟨?_,?_,?_,hbox6,?_,?_,?_⟩
 ·refine ⟨hg5.os.trans (hg3.os.trans hst.below.os),hg5.tape.trans (hg3.tape.trans hst.below.tape),hg5.output.trans (hg3.output.trans hst.below.output),by rw [sc_size]; omega,fun k hk => ?_⟩
  exact (low k (by omega)).trans (hst.below.block k hk)
 ·rw [sc_size]; omega
 ·exact (low _ (by omega)).trans hst.res
 ·rw [List.take_succ_eq_append_getElem hik,List.map_append]
  refine ownsRow_same hk3 fun g hg => ?_
  have hg : gk = g := by simpa [Value.ownBlock] using hg
  subst hg
  rw [far6 gk (by omega),far5 gk (by omega) hgl,far4 gk (by omega)]
 ·refine ownsRow_same hl5 fun g hg => ?_
  have hg : gl = g := by simpa [Value.ownBlock] using hg
  subst hg
  have := row_lt hl5 gl rfl
  rw [far6 gl (by omega)]
 ·rw [List.take_succ_eq_append_getElem hi]
  refine ListIn.snoc ?_ ?_
  ·exact ListIn.later (fun b hb' _ => low b (by have := hb'.2; omega)) (fun _ h => h) _ _ hst.parts
  ·exact ValIn.later (fun b hb' _ => (low b (by have := hb'.2; omega)).trans (hst.below.block b hb'.2)) (fun _ h => h) _ _ _ hv
theorem rc_start (R : Nat → Prop) (ks : List (List UInt8)) (l : List Val) (w : World) : RcSt R ks l (.slice none 0 0) (.slice none 0 0) [] 0 w
  ((w.alloc (.cells #[.int .i64 0,.bool false,.int .i64 0,.string ⟨#[]⟩,.slice none 0 0,.slice none 0 0] 36)).alloc (.cells #[.int .i64 5,.bool false,.int .i64 0,.string ⟨#[]⟩,.slice none 0 0,.slice none 0 0] 36)) := by
 obtain ⟨h1,h2,h3,h4⟩ := two w (.cells #[.int .i64 0,.bool false,.int .i64 0,.string ⟨#[]⟩,.slice none 0 0,.slice none 0 0] 36) (.cells #[.int .i64 5,.bool false,.int .i64 0,.string ⟨#[]⟩,.slice none 0 0,.slice none 0 0] 36)
 exact ⟨h3,by rw [h4]; omega,h1,h2,World.ownsRow_nil _ _ _ _,World.ownsRow_nil _ _ _ _,rfl⟩
theorem rc_end {R : Nat → Prop} {ks : List (List UInt8)} {l : List Val} {lv kv : Value} {xs : List Value} {w wr : World} (hst : RcSt R ks l lv kv xs l.length w wr) (hkl : ks.length = l.length) :
  ValIn wr (fun g => (R g ∧ g < w.heap.size) ∨ w.heap.size + 2 ≤ g) (recP ks l) lv kv := by
 have hk := hst.keys
 have hp := hst.parts
 have ho := hst.own
 rw [List.take_of_length_le (by omega)] at hk
 rw [List.take_of_length_le (by omega)] at hp
 rw [← hkl] at hk
 refine ⟨?_,(keys_own hk).later (fun _ _ _ => rfl) (fun _ h => .inr h)⟩
 rcases ho.2 with ⟨h1,h2⟩ | ⟨g,cap,cur,h1,hg,hgg,hle,hcap,hsz,htake⟩
 ·exact ⟨none,0,by rw [h1,h2],.inl (List.eq_nil_of_length_eq_zero h2)⟩
 ·refine ⟨some ⟨g,0,none⟩,cap,h1,.inr ⟨g,0,xs,rfl,.inr hg,fun j u hj => ?_,ListIn.later (fun _ _ _ => rfl) (fun _ h => .inl h) _ _ hp⟩⟩
  rw [Nat.zero_add]
  unfold World.cell?
  rw [hgg]
  rw [← htake,List.getElem?_take] at hj
  split at hj
  ·simpa using hj
  ·cases hj
end Go.Proofs.YtcfdalbdndamoaaGreatDoor.M
