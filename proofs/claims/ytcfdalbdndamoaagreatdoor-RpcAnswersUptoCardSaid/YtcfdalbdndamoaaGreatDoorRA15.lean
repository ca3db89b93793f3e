/- What the claim needs of the texts MMake4, MMake5. -/
import Derived.Test.YtcfdalbdndamoaaGreatDoorRA14
import Derived.Deep.RegionHeld3
namespace Go.Proofs.YtcfdalbdndamoaaGreatDoor.M
open Go.RowKit
open Go.Lib Go.Proofs.YtcfdalbdndamoaaGreatDoor.V
def Open (q : Nat) (W0 W : World) : Prop := Mut W0.heap.size q W0 W ∧ q < W0.heap.size ∧ ∃ y0 y1 y2 y3 y4 y5,W.heap[q]? = some (.cells #[y0,y1,y2,y3,y4,y5] 36 (0,0))
theorem Open.size {q : Nat} {W0 W : World} (h : Open q W0 W) : W0.heap.size ≤ W.heap.size := h.1.size
theorem Open.lt {q : Nat} {W0 W : World} (h : Open q W0 W) : q < W.heap.size := Nat.lt_of_lt_of_le h.2.1 h.1.size
theorem Open.later {q : Nat} {W0 W W' : World} (h : Open q W0 W) (hb : Below W.heap.size W W') : Open q W0 W' := by
 have hl := h.lt
 obtain ⟨h1,h3,y0,y1,y2,y3,y4,y5,h4⟩ := h
 exact ⟨h1.trans ((Mut.of_below hb).mono h1.size),h3,y0,y1,y2,y3,y4,y5,(hb.block q hl).trans h4⟩
theorem Open.alloc {q : Nat} {W0 W : World} (h : Open q W0 W) (ob : Obj) : Open q W0 (W.alloc ob) := h.later ((Below.refl _ _).alloc (Nat.le_refl _) ob)
theorem Open.drew {q : Nat} {W0 W : World} (h : Open q W0 W) : Open q W0 W.drew := by
 obtain ⟨h1,h3,h4⟩ := h
 exact ⟨⟨h1.os,h1.tape,h1.output,h1.size,h1.block⟩,h3,h4⟩
theorem Open.set {q : Nat} {W0 W : World} (h : Open q W0 W) (i : Nat) (v : Value) : Open q W0 (W.setCell ⟨q,i,none⟩ v) := by
 obtain ⟨h1,h3,y0,y1,y2,y3,y4,y5,h4⟩ := h
 refine ⟨h1.setCell i v,h3,?_⟩
 have h5 := Go.Joins.block_setCell (i := i) h4 v
 match i,h5 with
 | 0,h5 => exact ⟨_,_,_,_,_,_,h5⟩
 | 1,h5 => exact ⟨_,_,_,_,_,_,h5⟩
 | 2,h5 => exact ⟨_,_,_,_,_,_,h5⟩
 | 3,h5 => exact ⟨_,_,_,_,_,_,h5⟩
 | 4,h5 => exact ⟨_,_,_,_,_,_,h5⟩
 | 5,h5 => exact ⟨_,_,_,_,_,_,h5⟩
 | _ + 6,h5 => exact ⟨_,_,_,_,_,_,h5⟩
theorem Open.start {q : Nat} {W : World} {y0 y1 y2 y3 y4 y5 : Value} (h : W.heap[q]? = some (.cells #[y0,y1,y2,y3,y4,y5] 36 (0,0))) : Open q W W :=
 ⟨Mut.refl _ _ _,(Array.getElem?_eq_some_iff.1 h).1,y0,y1,y2,y3,y4,y5,h⟩
theorem Open.cell {q : Nat} {W0 W : World} (h : Open q W0 W) {p : Addr} {v : Value} (hp : W0.cell? p = some v) (hq : p.block ≠ q) : W.cell? p = some v :=
 (cell_of_same (h.1.block p.block (lt_of_cell hp) hq)).trans hp
theorem Open.below {q B : Nat} {w W0 W : World} (h : Open q W0 W) (hb : Below B w W0) (hB : B ≤ q) (hB2 : B ≤ W0.heap.size) : Below B w W := hb.trans ((h.1.mono hB2).below hB)
theorem Open.cells {q : Nat} {W0 W : World} (h : Open q W0 W) : ∃ y0 y1 y2 y3 y4 y5,W.cell? ⟨q,0,none⟩ = some y0 ∧ W.cell? ⟨q,1,none⟩ = some y1 ∧ W.cell? ⟨q,2,none⟩ = some y2 ∧ W.cell? ⟨q,3,none⟩ = some y3 ∧ W.cell? ⟨q,4,none⟩ = some y4 ∧ W.cell? ⟨q,5,none⟩ = some y5 ∧ (∀ i,W.frozen? ⟨q,i,none⟩ = false) ∧ Hid (W.heap[q]? = some (.cells #[y0,y1,y2,y3,y4,y5] 36 (0,0))) := by
 obtain ⟨h1,h3,y0,y1,y2,y3,y4,y5,h4⟩ := h
 obtain ⟨⟨k0,k1,k2,k3,k4,k5⟩,kf⟩ := cells_six h4
 exact ⟨y0,y1,y2,y3,y4,y5,k0,k1,k2,k3,k4,k5,kf,Lib.hid h4⟩
def Made (v : Val) (n : Nat) (q : Nat) (W0 : World) (B : Nat) (e : Ending) (w' : World) : Prop :=
 ∃ a c a' c',e = .returned (.agg #[.int .i64 5,.bool false,.int .i64 0,.string ⟨#[]⟩,.slice a n c,.slice a' n c']) ∧ Hid (ValIn w' (fun b => B ≤ b) v (.slice a n c) (.slice a' n c')) ∧ Hid (Open q W0 w')
theorem made_rec {ps : List (List UInt8 × Val)} {g off c q B : Nat} {R : Nat → Prop} {W0 W : World} (hp : PartsAt W R ps g off) (hpl : ps.length ≤ 900) (hR : ∀ b,R b → B ≤ b) (hB : B ≤ W.heap.size) (hO : Open q W0 W) :
  Calls Tryz.prog 50 #[.slice (some ⟨g,off,none⟩) ps.length c] W (Made (recP (ps.map (·.1)) (ps.map (·.2))) ps.length q W0 B) := by
 refine (record_any ps g off c R W hp (by omega)).mono ?_
 rintro e w' ⟨hb,lv,kv,rfl,hv⟩
 have hv' := hv
 obtain ⟨⟨a1,c1,rfl,_⟩,⟨a2,c2,rfl,_⟩⟩ := hv'
 refine ⟨a1,c1,a2,c2,?_,Lib.hid ?_,Lib.hid (hO.later hb)⟩
 ·simp [arg,recP,six',six,strCell]
 ·have h := ValIn.later (R' := fun b => B ≤ b) (fun _ _ _ => rfl) (fun b hb => hb.elim (hR b) (fun h => by omega)) _ _ _ hv
  simpa using h
set_option maxHeartbeats 8000000 in
set_option maxRecDepth 100000 in
theorem place_any (p : PlaceP) (w : World) :
  Calls Tryz.prog 59 #[.agg #[.int .i64 p.line,.int .i64 p.unit]] w fun e w' => Below w.heap.size w w' ∧ ∃ lv kv,e = .returned (arg (atPlace p) lv kv) ∧ ValIn w' (fun b => w.heap.size ≤ b) (atPlace p) lv kv := by
 obtain ⟨ln,un⟩ := p
 simp only
 obtain ⟨h1,h2,h3,h4⟩ := two w (.cells #[.int .i64 ln,.int .i64 un] 29) (.cells #[.int .i64 0,.bool false,.int .i64 0,.string ⟨#[]⟩,.slice none 0 0,.slice none 0 0] 36)
 obtain ⟨W2,hW2⟩ : ∃ W2,(w.alloc (.cells #[.int .i64 ln,.int .i64 un] 29)).alloc (.cells #[.int .i64 0,.bool false,.int .i64 0,.string ⟨#[]⟩,.slice none 0 0,.slice none 0 0] 36) = W2 := ⟨_,rfl⟩
 rw [hW2] at h1 h2 h3 h4
 have q0 : W2.cell? ⟨w.heap.size,0,none⟩ = some (.int .i64 ln) := by unfold World.cell?; rw [h1]; rfl
 have q1 : W2.cell? ⟨w.heap.size,1,none⟩ = some (.int .i64 un) := by unfold World.cell?; rw [h1]; rfl
 have hz2 : w.heap.size + 2 ≤ W2.heap.size := by omega
 have HB2 := Lib.hid h3
 have hc : ∀ W,Open (w.heap.size + 1) W2 W → (W.cell? ⟨w.heap.size,0,none⟩ = some (.int .i64 ln) ∧ W.cell? ⟨w.heap.size,1,none⟩ = some (.int .i64 un) ∧ Open (w.heap.size + 1) W2 W) := fun W hO => ⟨hO.cell q0 (Nat.ne_of_lt (Nat.lt_succ_self _)),hO.cell q1 (Nat.ne_of_lt (Nat.lt_succ_self _)),hO⟩
 have cN : ∀ n W,(W.cell? ⟨w.heap.size,0,none⟩ = some (.int .i64 ln) ∧ W.cell? ⟨w.heap.size,1,none⟩ = some (.int .i64 un) ∧ Open (w.heap.size + 1) W2 W) → Calls Tryz.prog 51 #[.int .i64 n] W fun e w' => e = .returned (.agg #[.int .i64 2,.bool false,.int .i64 n,.string ⟨#[]⟩,.slice none 0 0,.slice none 0 0]) ∧ (w'.cell? ⟨w.heap.size,0,none⟩ = some (.int .i64 ln) ∧ w'.cell? ⟨w.heap.size,1,none⟩ = some (.int .i64 un) ∧ Open (w.heap.size + 1) W2 w') := fun n W hS => by
  refine (number_any n W).mono ?_
  rintro e w' ⟨h1,h2⟩
  exact ⟨h1,hc _ (hS.2.2.later h2)⟩
 have cR : ∀ W g,(W.cell? ⟨w.heap.size,0,none⟩ = some (.int .i64 ln) ∧ W.cell? ⟨w.heap.size,1,none⟩ = some (.int .i64 un) ∧ Open (w.heap.size + 1) W2 W) → W.heap[g]? = some (.cells #[.string ⟨#[108,105,110,101]⟩,.int .i64 2,.bool false,.int .i64 ln,.string ⟨#[]⟩,.slice none 0 0,.slice none 0 0,.string ⟨#[99,104,97,114,97,99,116,101,114]⟩,.int .i64 2,.bool false,.int .i64 un,.string ⟨#[]⟩,.slice none 0 0,.slice none 0 0] 78 (0,0)) →
   Calls Tryz.prog 50 #[.slice (some ⟨g,0,none⟩) 2 2] W fun e w' => ∃ a c a' c' y0 y1 y2 y3 y4 y5,e = .returned (.agg #[.int .i64 5,.bool false,.int .i64 0,.string ⟨#[]⟩,.slice a 2 c,.slice a' 2 c']) ∧ Hid (ValIn w' (fun b => W2.heap.size ≤ b) (atPlace ⟨ln,un⟩) (.slice a 2 c) (.slice a' 2 c')) ∧
    w'.cell? ⟨w.heap.size + 1,0,none⟩ = some y0 ∧ w'.cell? ⟨w.heap.size + 1,1,none⟩ = some y1 ∧ w'.cell? ⟨w.heap.size + 1,2,none⟩ = some y2 ∧ w'.cell? ⟨w.heap.size + 1,3,none⟩ = some y3 ∧ w'.cell? ⟨w.heap.size + 1,4,none⟩ = some y4 ∧ w'.cell? ⟨w.heap.size + 1,5,none⟩ = some y5 ∧ (∀ i,w'.frozen? ⟨w.heap.size + 1,i,none⟩ = false) ∧ Hid (w'.heap[w.heap.size + 1]? = some (.cells #[y0,y1,y2,y3,y4,y5] 36 (0,0))) ∧ (w'.cell? ⟨w.heap.size,0,none⟩ = some (.int .i64 ln) ∧ w'.cell? ⟨w.heap.size,1,none⟩ = some (.int .i64 un) ∧ Open (w.heap.size + 1) W2 w') := fun W g hS hg => by
  have hP : PartsAt W (fun _ => False) [(bLine,numP ln),(bChar,numP un)] g 0 := ⟨_,cells_of_block hg,.slice none 0 0,.slice none 0 0,_,rfl,leaf_in _ _ _ _ _ _,.slice none 0 0,.slice none 0 0,[],rfl,leaf_in _ _ _ _ _ _,rfl⟩
  refine (made_rec (c := 2) (B := W2.heap.size) hP (by simp) (fun b h => h.elim) hS.2.2.size hS.2.2).mono ?_
  rintro e w' ⟨a,c,a',c',rfl,hv,hO⟩
  obtain ⟨y0,y1,y2,y3,y4,y5,k0,k1,k2,k3,k4,k5,kf,hh⟩ := hO.out.cells
  exact ⟨a,c,a',c',y0,y1,y2,y3,y4,y5,rfl,hv,k0,k1,k2,k3,k4,k5,kf,hh,hc _ hO.out⟩
 have hA : ∀ W ob,(W.cell? ⟨w.heap.size,0,none⟩ = some (.int .i64 ln) ∧ W.cell? ⟨w.heap.size,1,none⟩ = some (.int .i64 un) ∧ Open (w.heap.size + 1) W2 W) → ((W.alloc ob).cell? ⟨w.heap.size,0,none⟩ = some (.int .i64 ln) ∧ (W.alloc ob).cell? ⟨w.heap.size,1,none⟩ = some (.int .i64 un) ∧ Open (w.heap.size + 1) W2 (W.alloc ob)) := fun W ob hS => hc _ (hS.2.2.alloc ob)
 have hT : ∀ W i v,(W.cell? ⟨w.heap.size,0,none⟩ = some (.int .i64 ln) ∧ W.cell? ⟨w.heap.size,1,none⟩ = some (.int .i64 un) ∧ Open (w.heap.size + 1) W2 W) → ((W.setCell ⟨w.heap.size + 1,i,none⟩ v).cell? ⟨w.heap.size,0,none⟩ = some (.int .i64 ln) ∧ (W.setCell ⟨w.heap.size + 1,i,none⟩ v).cell? ⟨w.heap.size,1,none⟩ = some (.int .i64 un) ∧ Open (w.heap.size + 1) W2 (W.setCell ⟨w.heap.size + 1,i,none⟩ v)) := fun W i v hS => hc _ (hS.2.2.set i v)
 have hS0 : (W2.drew.cell? ⟨w.heap.size,0,none⟩ = some (.int .i64 ln) ∧ W2.drew.cell? ⟨w.heap.size,1,none⟩ = some (.int .i64 un) ∧ Open (w.heap.size + 1) W2 (W2.drew)) := hc _ (Open.start h2).drew
 clear h1 h2 h3 h4 hc
 go_enter Tryz.func59,Tryz.ntmps59
 go_upto_region 1 with fail
 go_region_held3 (fun W => (W.cell? ⟨w.heap.size,0,none⟩ = some (.int .i64 ln) ∧ W.cell? ⟨w.heap.size,1,none⟩ = some (.int .i64 un) ∧ Open (w.heap.size + 1) W2 W)) (with_reducible (repeat (first | assumption | refine hA _ _ ?_ | refine hT _ _ _ ?_))) (first
  | (go_at_call 51; (with_reducible refine (cN _ _ ?_).mono ?_); assumption; rintro e wn ⟨rfl,hSn⟩)
  | (go_at_call 50; (with_reducible refine (cR _ _ ?_ ?_).mono ?_); (with_reducible (repeat (first | assumption | refine hA _ _ ?_))); (exact heap_alloc_new _ _); rintro e wq ⟨a,c,a',c',y0,y1,y2,y3,y4,y5,rfl,hv,k0,k1,k2,k3,k4,k5,kf,hh,hSq⟩))
 obtain ⟨HP1,HMB,HV4⟩ := ret6 hh.out (hSq.2.2.below HB2.out (Nat.le_succ _) (by omega)) (Nat.le_succ _) hv.out (fun b hb => by omega)
 have HVE := Lib.hid (ValIn.later (R' := fun b => w.heap.size ≤ b) (fun _ _ _ => rfl) (fun b hb => by omega) _ _ _ HV4.out)
 clear hA hT cN cR hS0 q0 q1 hW2
 go_wp2_with fail
 (try simp only [Exit.inBlock,Exit.then])
 refine bodyPost_ret (v := .agg #[.int .i64 5,.bool false,.int .i64 0,.string ⟨#[]⟩,.slice a 2 c,.slice a' 2 c']) (results_cell_row rfl _ _ (w.heap.size + 1) 36 #[.int .i64 5,.bool false,.int .i64 0,.string ⟨#[]⟩,.slice a 2 c,.slice a' 2 c'] (0,0) _ (by rfl) HP1.out Tryz.underlying36 rfl (by kernel_rfl)) rfl ?_
 exact ⟨HMB.out,.slice a 2 c,.slice a' 2 c',rfl,HVE.out⟩
end Go.Proofs.YtcfdalbdndamoaaGreatDoor.M
namespace Go.Proofs.YtcfdalbdndamoaaGreatDoor.M
open Go.RowKit
open Go.Lib Go.Proofs.YtcfdalbdndamoaaGreatDoor.V
set_option maxHeartbeats 8000000 in
set_option maxRecDepth 100000 in
theorem change_whole (t : List UInt8) (fl fu tl tu : Int) (w : World) :
  Calls Tryz.prog 91 #[.agg #[.int .i64 fl,.int .i64 fu,.int .i64 tl,.int .i64 tu,.string ⟨t.toArray⟩,.bool true]] w fun e w' => Below w.heap.size w w' ∧ ∃ lv kv,e = .returned (arg (editV ⟨⟨fl,fu⟩,⟨tl,tu⟩,t,true⟩) lv kv) ∧ ValIn w' (fun b => w.heap.size ≤ b) (editV ⟨⟨fl,fu⟩,⟨tl,tu⟩,t,true⟩) lv kv := by
 have he : editV ⟨⟨fl,fu⟩,⟨tl,tu⟩,t,true⟩ = recP [bText] [strP t] := rfl
 rw [he]
 obtain ⟨h1,h2,h3,h4⟩ := two w (.cells #[.int .i64 fl,.int .i64 fu,.int .i64 tl,.int .i64 tu,.string ⟨t.toArray⟩,.bool true] 84) (.cells #[.int .i64 0,.bool false,.int .i64 0,.string ⟨#[]⟩,.slice none 0 0,.slice none 0 0] 36)
 obtain ⟨W2,hW2⟩ : ∃ W2,(w.alloc (.cells #[.int .i64 fl,.int .i64 fu,.int .i64 tl,.int .i64 tu,.string ⟨t.toArray⟩,.bool true] 84)).alloc (.cells #[.int .i64 0,.bool false,.int .i64 0,.string ⟨#[]⟩,.slice none 0 0,.slice none 0 0] 36) = W2 := ⟨_,rfl⟩
 rw [hW2] at h1 h2 h3 h4
 have q4 : W2.cell? ⟨w.heap.size,4,none⟩ = some (.string ⟨t.toArray⟩) := by unfold World.cell?; rw [h1]; rfl
 have q5 : W2.cell? ⟨w.heap.size,5,none⟩ = some (.bool true) := by unfold World.cell?; rw [h1]; rfl
 have hz2 : w.heap.size + 2 ≤ W2.heap.size := by omega
 have HB2 := Lib.hid h3
 have HO := Lib.hid (Open.start h2)
 clear h1 h2 h3 h4
 go_enter Tryz.func91,Tryz.ntmps91
 go_wp2_with fail
 refine (text_any ⟨t.toArray⟩ _).mono ?_
 rintro e w1 ⟨rfl,hb1⟩
 have HO1 := Lib.hid (HO.out.later hb1)
 have hg := heap_alloc_new w1 (.cells #[.string ⟨#[116,101,120,116]⟩,.int .i64 3,.bool false,.int .i64 0,.string ⟨t.toArray⟩,.slice none 0 0,.slice none 0 0] 78)
 have hP : PartsAt (w1.alloc (.cells #[.string ⟨#[116,101,120,116]⟩,.int .i64 3,.bool false,.int .i64 0,.string ⟨t.toArray⟩,.slice none 0 0,.slice none 0 0] 78)) (fun _ => False) [(bText,strP t)] w1.heap.size 0 := ⟨_,cells_of_block hg,.slice none 0 0,.slice none 0 0,[],rfl,leaf_in _ _ _ _ _ _,rfl⟩
 have cR := made_rec (c := 1) (B := W2.heap.size) hP (by simp) (fun b h => h.elim) (HO1.out.alloc _).size (HO1.out.alloc _)
 simp only [List.length_cons,List.length_nil,Nat.zero_add,List.map_cons,List.map_nil] at cR
 have CR := Lib.hid cR
 clear hg hP cR q4 q5 hW2 hb1
 go_wp2_with fail
 refine CR.out.mono ?_
 rintro e wq ⟨a,c,a',c',rfl,hv,hO⟩
 obtain ⟨y0,y1,y2,y3,y4,y5,k0,k1,k2,k3,k4,k5,kf,hh⟩ := hO.out.cells
 obtain ⟨HP1,HMB,HV4⟩ := ret6 hh.out (hO.out.below HB2.out (Nat.le_succ _) (by omega)) (Nat.le_succ _) hv.out (fun b hb => by omega)
 have HVE := Lib.hid (ValIn.later (R' := fun b => w.heap.size ≤ b) (fun _ _ _ => rfl) (fun b hb => by omega) _ _ _ HV4.out)
 clear CR
 go_wp2_with fail
 (try simp only [Exit.inBlock,Exit.then])
 refine bodyPost_ret (v := .agg #[.int .i64 5,.bool false,.int .i64 0,.string ⟨#[]⟩,.slice a 1 c,.slice a' 1 c']) (results_cell_row rfl _ _ (w.heap.size + 1) 36 #[.int .i64 5,.bool false,.int .i64 0,.string ⟨#[]⟩,.slice a 1 c,.slice a' 1 c'] (0,0) _ (by rfl) HP1.out Tryz.underlying36 rfl (by kernel_rfl)) rfl ?_
 exact ⟨HMB.out,.slice a 1 c,.slice a' 1 c',rfl,HVE.out⟩
end Go.Proofs.YtcfdalbdndamoaaGreatDoor.M
