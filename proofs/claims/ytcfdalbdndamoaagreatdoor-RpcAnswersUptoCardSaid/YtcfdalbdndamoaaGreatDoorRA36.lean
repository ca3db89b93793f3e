/- What the claim needs of the texts MRef1. -/
import Derived.Test.YtcfdalbdndamoaaGreatDoorRA35
namespace Go.Proofs.YtcfdalbdndamoaaGreatDoor.M
open Go.RowKit
open Go.Lib Go.Proofs.YtcfdalbdndamoaaGreatDoor.V
def OpenR (q : Nat) (W0 W : World) : Prop := Mut W0.heap.size q W0 W ∧ q < W0.heap.size ∧ ∃ y0 y1 y2 y3 y4 y5,W.heap[q]? = some (.cells #[y0,y1,y2,y3,y4,y5] 26 (0,0))
theorem OpenR.size {q : Nat} {W0 W : World} (h : OpenR q W0 W) : W0.heap.size ≤ W.heap.size := h.1.size
theorem OpenR.lt {q : Nat} {W0 W : World} (h : OpenR q W0 W) : q < W.heap.size := Nat.lt_of_lt_of_le h.2.1 h.1.size
theorem OpenR.later {q : Nat} {W0 W W' : World} (h : OpenR q W0 W) (hb : Below W.heap.size W W') : OpenR q W0 W' := by
 have hl := h.lt
 obtain ⟨h1,h3,y0,y1,y2,y3,y4,y5,h4⟩ := h
 exact ⟨h1.trans ((Mut.of_below hb).mono h1.size),h3,y0,y1,y2,y3,y4,y5,(hb.block q hl).trans h4⟩
theorem OpenR.alloc {q : Nat} {W0 W : World} (h : OpenR q W0 W) (ob : Obj) : OpenR q W0 (W.alloc ob) := h.later ((Below.refl _ _).alloc (Nat.le_refl _) ob)
theorem OpenR.drew {q : Nat} {W0 W : World} (h : OpenR q W0 W) : OpenR q W0 W.drew := by
 obtain ⟨h1,h3,h4⟩ := h
 exact ⟨⟨h1.os,h1.tape,h1.output,h1.size,h1.block⟩,h3,h4⟩
theorem OpenR.set {q : Nat} {W0 W : World} (h : OpenR q W0 W) (i : Nat) (v : Value) : OpenR q W0 (W.setCell ⟨q,i,none⟩ v) := by
 obtain ⟨h1,h3,y0,y1,y2,y3,y4,y5,h4⟩ := h
 refine ⟨h1.setCell i v,h3,?_⟩
 have h5 := Go.Joins.block_setCell (i := i) h4 v
 match i,h5 with
 | 0,h5 => exact ⟨_,_,_,_,_,_,h5⟩
 | 1,h5 => exact ⟨_,_,_,_,_,_,h5⟩
 | 2,h5 => exact ⟨_,_,_,_,_,_,h5⟩
 | 3,h5 => exact ⟨_,_,_,_,_,_,h5⟩
 | 4,h5 => exact ⟨_,_,_,_,_,_,h5⟩
 | 5,h5 => exact ⟨_,_,_,_,_,_,h5⟩
 | _ + 6,h5 => exact ⟨_,_,_,_,_,_,h5⟩
theorem OpenR.start {q : Nat} {W : World} {y0 y1 y2 y3 y4 y5 : Value} (h : W.heap[q]? = some (.cells #[y0,y1,y2,y3,y4,y5] 26 (0,0))) : OpenR q W W :=
 ⟨Mut.refl _ _ _,(Array.getElem?_eq_some_iff.1 h).1,y0,y1,y2,y3,y4,y5,h⟩
theorem OpenR.cell {q : Nat} {W0 W : World} (h : OpenR q W0 W) {p : Addr} {v : Value} (hp : W0.cell? p = some v) (hq : p.block ≠ q) : W.cell? p = some v :=
 (cell_of_same (h.1.block p.block (lt_of_cell hp) hq)).trans hp
theorem OpenR.below {q B : Nat} {w W0 W : World} (h : OpenR q W0 W) (hb : Below B w W0) (hB : B ≤ q) (hB2 : B ≤ W0.heap.size) : Below B w W := hb.trans ((h.1.mono hB2).below hB)
theorem OpenR.cells {q : Nat} {W0 W : World} (h : OpenR q W0 W) : ∃ y0 y1 y2 y3 y4 y5,W.cell? ⟨q,0,none⟩ = some y0 ∧ W.cell? ⟨q,1,none⟩ = some y1 ∧ W.cell? ⟨q,2,none⟩ = some y2 ∧ W.cell? ⟨q,3,none⟩ = some y3 ∧ W.cell? ⟨q,4,none⟩ = some y4 ∧ W.cell? ⟨q,5,none⟩ = some y5 ∧ (∀ i,W.frozen? ⟨q,i,none⟩ = false) ∧ Hid (W.heap[q]? = some (.cells #[y0,y1,y2,y3,y4,y5] 26 (0,0))) := by
 obtain ⟨h1,h3,y0,y1,y2,y3,y4,y5,h4⟩ := h
 obtain ⟨⟨k0,k1,k2,k3,k4,k5⟩,kf⟩ := cells_six h4
 exact ⟨y0,y1,y2,y3,y4,y5,k0,k1,k2,k3,k4,k5,kf,Lib.hid h4⟩
theorem retR6 {B q : Nat} {w W : World} {y0 y1 y2 y3 y4 y5 : Value} {R : Nat → Prop} {so : Int} {on : Bool} {n : Int} {t : List UInt8} {l : List Val} {ks : List (List UInt8)} {lv kv : Value}
  (hr : W.heap[q]? = some (.cells #[y0,y1,y2,y3,y4,y5] 26 (0,0))) (hb : Below B w W) (hq : B ≤ q) (hv : ValIn W R (.mk so on n t l ks) lv kv) (hne : ∀ b,R b → b ≠ q) :
  Hid (((((((W.setCell ⟨q,0,none⟩ (.int .i64 so)).setCell ⟨q,1,none⟩ (.bool on)).setCell ⟨q,2,none⟩ (.int .i64 n)).setCell ⟨q,3,none⟩ (.string ⟨t.toArray⟩)).setCell ⟨q,4,none⟩ lv).setCell ⟨q,5,none⟩ kv).heap[q]? = some (.cells #[.int .i64 so,.bool on,.int .i64 n,.string ⟨t.toArray⟩,lv,kv] 26 (0,0))) ∧
  Hid (Below B w ((((((W.setCell ⟨q,0,none⟩ (.int .i64 so)).setCell ⟨q,1,none⟩ (.bool on)).setCell ⟨q,2,none⟩ (.int .i64 n)).setCell ⟨q,3,none⟩ (.string ⟨t.toArray⟩)).setCell ⟨q,4,none⟩ lv).setCell ⟨q,5,none⟩ kv)) ∧
  Hid (ValIn ((((((W.setCell ⟨q,0,none⟩ (.int .i64 so)).setCell ⟨q,1,none⟩ (.bool on)).setCell ⟨q,2,none⟩ (.int .i64 n)).setCell ⟨q,3,none⟩ (.string ⟨t.toArray⟩)).setCell ⟨q,4,none⟩ lv).setCell ⟨q,5,none⟩ kv) R (.mk so on n t l ks) lv kv) := by
 obtain ⟨hp1,hp2⟩ := six_put' hr (.int .i64 so) (.bool on) (.int .i64 n) (.string ⟨t.toArray⟩) lv kv
 exact ⟨Lib.hid hp1,Lib.hid (below6 hb hq _ _ _ _ _ _),Lib.hid (ValIn.later (fun b hb' _ => hp2 b (hne b hb')) (fun _ h => h) _ _ _ hv)⟩
theorem kept_new {W ws : World} {K X : Obj} (hb : Below (W.alloc K).heap.size (W.alloc K) ws) : (ws.alloc X).heap[W.heap.size]? = some K := by
 have hz := hb.size
 simp only [World.size_alloc] at hz
 rw [Below.heap_alloc _ _ _ (by omega),hb.block _ (by simp)]
 exact heap_alloc_new _ _
theorem kept_newD {W ws : World} {K X : Obj} (hb : Below (W.alloc K).drew.heap.size (W.alloc K).drew ws) : (ws.alloc X).heap[W.heap.size]? = some K :=
 kept_new (⟨hb.os,hb.tape,hb.output,hb.size,hb.block⟩ : Below (W.alloc K).heap.size (W.alloc K) ws)
theorem rec_in {W : World} {R : Nat → Prop} {gk gl : Nat} {ks : List (List UInt8)} {l : List Val} {xs : List Value} {ck cl : Nat} {tk tl : TypeId} {cks cls : Array Value} (hk : W.heap[gk]? = some (.cells cks tk (0,0))) (hl : W.heap[gl]? = some (.cells cls tl (0,0))) (ek : cks.toList = ks.map strCell) (el : cls.toList = xs) (rk : R gk) (rl : R gl) (hL : ListIn W R l xs) :
  ValIn W R (recP ks l) (.slice (some ⟨gl,0,none⟩) l.length cl) (.slice (some ⟨gk,0,none⟩) ks.length ck) :=
 ⟨⟨_,cl,rfl,.inr ⟨gl,0,xs,rfl,rl,by rw [← el]; exact cells_of_block hl,hL⟩⟩,⟨_,ck,rfl,.inr ⟨gk,0,rfl,rk,by rw [← ek]; exact cells_of_block hk⟩⟩⟩
set_option maxHeartbeats 2000000 in
theorem refrec_any (a b : Option Addr) (n m c d : Nat) (w : World) : Calls Tryz.prog 52 #[.slice a n c,.slice b m d] w fun e w' => e = .returned (.agg #[.int .i64 5,.bool false,.int .i64 0,.string ⟨#[]⟩,.slice b m d,.slice a n c]) ∧ Below w.heap.size w w' := by
 go_enter Tryz.func52,Tryz.ntmps52
 go_wp2_with fail
 (try simp only [Exit.inBlock,Exit.then])
 refine bodyPost_ret (v := .agg #[.int .i64 5,.bool false,.int .i64 0,.string ⟨#[]⟩,.slice b m d,.slice a n c]) (results_cell_row rfl _ _ w.heap.size 26 #[.int .i64 5,.bool false,.int .i64 0,.string ⟨#[]⟩,.slice b m d,.slice a n c] (0,0) _ (by rfl) (heap_alloc_new _ _) Tryz.underlying26 rfl (by kernel_rfl)) rfl ?_
 exact ⟨rfl,(Below.refl _ _).alloc (Nat.le_refl _) _⟩
theorem refstr_any (s : ByteArray) (w : World) : Calls Tryz.prog 53 #[.string s] w fun e w' => e = .returned (.agg #[.int .i64 3,.bool false,.int .i64 0,.string s,.slice none 0 0,.slice none 0 0]) ∧ Below w.heap.size w w' := by
 go_enter Tryz.func53,Tryz.ntmps53
 go_wp2_with fail
 (try simp only [Exit.inBlock,Exit.then])
 refine bodyPost_ret (v := .agg #[.int .i64 3,.bool false,.int .i64 0,.string s,.slice none 0 0,.slice none 0 0]) (results_cell_row rfl _ _ w.heap.size 26 #[.int .i64 3,.bool false,.int .i64 0,.string s,.slice none 0 0,.slice none 0 0] (0,0) _ (by rfl) (heap_alloc_new _ _) Tryz.underlying26 rfl (by kernel_rfl)) rfl ?_
 exact ⟨rfl,(Below.refl _ _).alloc (Nat.le_refl _) _⟩
theorem refnum_any (n : Int) (w : World) : Calls Tryz.prog 54 #[.int .i64 n] w fun e w' => e = .returned (.agg #[.int .i64 2,.bool false,.int .i64 n,.string ⟨#[]⟩,.slice none 0 0,.slice none 0 0]) ∧ Below w.heap.size w w' := by
 go_enter Tryz.func54,Tryz.ntmps54
 go_wp2_with fail
 (try simp only [Exit.inBlock,Exit.then])
 refine bodyPost_ret (v := .agg #[.int .i64 2,.bool false,.int .i64 n,.string ⟨#[]⟩,.slice none 0 0,.slice none 0 0]) (results_cell_row rfl _ _ w.heap.size 26 #[.int .i64 2,.bool false,.int .i64 n,.string ⟨#[]⟩,.slice none 0 0,.slice none 0 0] (0,0) _ (by rfl) (heap_alloc_new _ _) Tryz.underlying26 rfl (by kernel_rfl)) rfl ?_
 exact ⟨rfl,(Below.refl _ _).alloc (Nat.le_refl _) _⟩
set_option maxHeartbeats 8000000 in
set_option maxRecDepth 100000 in
theorem refreply_any (i r : Val) (il ik rl rk : Value) (R : Nat → Prop) (w : World) (hi : ValIn w R i il ik) (hr : ValIn w R r rl rk) :
  Calls Tryz.prog 24 #[arg i il ik,arg r rl rk] w fun e w' => Below w.heap.size w w' ∧ ∃ lv kv,e = .returned (arg (replyV i r) lv kv) ∧ ValIn w' (fun _ => True) (replyV i r) lv kv := by
 have j0 : ValIn w (fun g => g < w.heap.size) i il ik := (ValIn.bound _ _ _ hi).later (fun _ _ _ => rfl) (fun _ h => h.2) _ _ _
 have j0' := hi
 obtain ⟨jso,jon,jn,jt,jl,jks⟩ := i
 obtain ⟨⟨j1,j2,rfl,_⟩,⟨j3,j4,rfl,_⟩⟩ := j0'
 have s0 : ValIn w (fun g => g < w.heap.size) r rl rk := (ValIn.bound _ _ _ hr).later (fun _ _ _ => rfl) (fun _ h => h.2) _ _ _
 have s0' := hr
 obtain ⟨sso,son,sn,st,sl,sks⟩ := r
 obtain ⟨⟨s1,s2,rfl,_⟩,⟨s3,s4,rfl,_⟩⟩ := s0'
 simp only [arg,six',six,strCell]
 obtain ⟨jm1,hj1⟩ : ∃ m,jl.length = m := ⟨_,rfl⟩
 obtain ⟨jm2,hj2⟩ : ∃ m,jks.length = m := ⟨_,rfl⟩
 rw [hj1,hj2] at j0 ⊢
 obtain ⟨sm1,hs1⟩ : ∃ m,sl.length = m := ⟨_,rfl⟩
 obtain ⟨sm2,hs2⟩ : ∃ m,sks.length = m := ⟨_,rfl⟩
 rw [hs1,hs2] at s0 ⊢
 clear hi hr
 obtain ⟨h1,h2,h3,h4⟩ := three w (.cells #[.int .i64 jso,.bool jon,.int .i64 jn,.string ⟨jt.toArray⟩,.slice j1 jm1 j2,.slice j3 jm2 j4] 26) (.cells #[.int .i64 sso,.bool son,.int .i64 sn,.string ⟨st.toArray⟩,.slice s1 sm1 s2,.slice s3 sm2 s4] 26) (.cells #[.int .i64 0,.bool false,.int .i64 0,.string ⟨#[]⟩,.slice none 0 0,.slice none 0 0] 26)
 obtain ⟨W3,hW3⟩ : ∃ W3,((w.alloc (.cells #[.int .i64 jso,.bool jon,.int .i64 jn,.string ⟨jt.toArray⟩,.slice j1 jm1 j2,.slice j3 jm2 j4] 26)).alloc (.cells #[.int .i64 sso,.bool son,.int .i64 sn,.string ⟨st.toArray⟩,.slice s1 sm1 s2,.slice s3 sm2 s4] 26)).alloc (.cells #[.int .i64 0,.bool false,.int .i64 0,.string ⟨#[]⟩,.slice none 0 0,.slice none 0 0] 26) = W3 := ⟨_,rfl⟩
 rw [hW3] at h1 h2 h3 h4
 have hz3 : w.heap.size + 3 ≤ W3.heap.size := by have := h4.2; omega
 obtain ⟨q,hq⟩ : ∃ q,w.heap.size + 1 + 1 = q := ⟨_,rfl⟩
 rw [hq] at h3
 have hq3 := h3
 have HB3 := Lib.hid h4.1
 have hBq : w.heap.size ≤ q := by omega
 have j3' : ValIn W3 (fun b => b ≠ q) (.mk jso jon jn jt jl jks) (.slice j1 jm1 j2) (.slice j3 jm2 j4) := ValIn.later (fun g hg _ => HB3.out.block g hg) (fun g hg => by omega) _ _ _ j0
 have s3' : ValIn W3 (fun b => b ≠ q) (.mk sso son sn st sl sks) (.slice s1 sm1 s2) (.slice s3 sm2 s4) := ValIn.later (fun g hg _ => HB3.out.block g hg) (fun g hg => by omega) _ _ _ s0
 have p0 : W3.cell? ⟨w.heap.size,0,none⟩ = some (.int .i64 jso) := by unfold World.cell?; rw [h1]; rfl
 have p1 : W3.cell? ⟨w.heap.size,1,none⟩ = some (.bool jon) := by unfold World.cell?; rw [h1]; rfl
 have p2 : W3.cell? ⟨w.heap.size,2,none⟩ = some (.int .i64 jn) := by unfold World.cell?; rw [h1]; rfl
 have p3 : W3.cell? ⟨w.heap.size,3,none⟩ = some (.string ⟨jt.toArray⟩) := by unfold World.cell?; rw [h1]; rfl
 have p4 : W3.cell? ⟨w.heap.size,4,none⟩ = some (.slice j1 jm1 j2) := by unfold World.cell?; rw [h1]; rfl
 have p5 : W3.cell? ⟨w.heap.size,5,none⟩ = some (.slice j3 jm2 j4) := by unfold World.cell?; rw [h1]; rfl
 have p6 : W3.cell? ⟨w.heap.size + 1,0,none⟩ = some (.int .i64 sso) := by unfold World.cell?; rw [h2]; rfl
 have p7 : W3.cell? ⟨w.heap.size + 1,1,none⟩ = some (.bool son) := by unfold World.cell?; rw [h2]; rfl
 have p8 : W3.cell? ⟨w.heap.size + 1,2,none⟩ = some (.int .i64 sn) := by unfold World.cell?; rw [h2]; rfl
 have p9 : W3.cell? ⟨w.heap.size + 1,3,none⟩ = some (.string ⟨st.toArray⟩) := by unfold World.cell?; rw [h2]; rfl
 have p10 : W3.cell? ⟨w.heap.size + 1,4,none⟩ = some (.slice s1 sm1 s2) := by unfold World.cell?; rw [h2]; rfl
 have p11 : W3.cell? ⟨w.heap.size + 1,5,none⟩ = some (.slice s3 sm2 s4) := by unfold World.cell?; rw [h2]; rfl
 clear h1 h2 h3 h4 j0 s0
 go_enter Tryz.func24,Tryz.ntmps24
 go_upto_region 1 with fail
 have hc : ∀ W,OpenR q W3 W → (W.cell? ⟨w.heap.size,0,none⟩ = some (.int .i64 jso) ∧ W.cell? ⟨w.heap.size,1,none⟩ = some (.bool jon) ∧ W.cell? ⟨w.heap.size,2,none⟩ = some (.int .i64 jn) ∧ W.cell? ⟨w.heap.size,3,none⟩ = some (.string ⟨jt.toArray⟩) ∧ W.cell? ⟨w.heap.size,4,none⟩ = some (.slice j1 jm1 j2) ∧ W.cell? ⟨w.heap.size,5,none⟩ = some (.slice j3 jm2 j4) ∧ W.cell? ⟨w.heap.size + 1,0,none⟩ = some (.int .i64 sso) ∧ W.cell? ⟨w.heap.size + 1,1,none⟩ = some (.bool son) ∧ W.cell? ⟨w.heap.size + 1,2,none⟩ = some (.int .i64 sn) ∧ W.cell? ⟨w.heap.size + 1,3,none⟩ = some (.string ⟨st.toArray⟩) ∧ W.cell? ⟨w.heap.size + 1,4,none⟩ = some (.slice s1 sm1 s2) ∧ W.cell? ⟨w.heap.size + 1,5,none⟩ = some (.slice s3 sm2 s4) ∧ OpenR q W3 W) := fun W hO => ⟨hO.cell p0 (by show w.heap.size ≠ q; omega),hO.cell p1 (by show w.heap.size ≠ q; omega),hO.cell p2 (by show w.heap.size ≠ q; omega),hO.cell p3 (by show w.heap.size ≠ q; omega),hO.cell p4 (by show w.heap.size ≠ q; omega),hO.cell p5 (by show w.heap.size ≠ q; omega),hO.cell p6 (by show w.heap.size + 1 ≠ q; omega),hO.cell p7 (by show w.heap.size + 1 ≠ q; omega),hO.cell p8 (by show w.heap.size + 1 ≠ q; omega),hO.cell p9 (by show w.heap.size + 1 ≠ q; omega),hO.cell p10 (by show w.heap.size + 1 ≠ q; omega),hO.cell p11 (by show w.heap.size + 1 ≠ q; omega),hO⟩
 have hA : ∀ W ob,(W.cell? ⟨w.heap.size,0,none⟩ = some (.int .i64 jso) ∧ W.cell? ⟨w.heap.size,1,none⟩ = some (.bool jon) ∧ W.cell? ⟨w.heap.size,2,none⟩ = some (.int .i64 jn) ∧ W.cell? ⟨w.heap.size,3,none⟩ = some (.string ⟨jt.toArray⟩) ∧ W.cell? ⟨w.heap.size,4,none⟩ = some (.slice j1 jm1 j2) ∧ W.cell? ⟨w.heap.size,5,none⟩ = some (.slice j3 jm2 j4) ∧ W.cell? ⟨w.heap.size + 1,0,none⟩ = some (.int .i64 sso) ∧ W.cell? ⟨w.heap.size + 1,1,none⟩ = some (.bool son) ∧ W.cell? ⟨w.heap.size + 1,2,none⟩ = some (.int .i64 sn) ∧ W.cell? ⟨w.heap.size + 1,3,none⟩ = some (.string ⟨st.toArray⟩) ∧ W.cell? ⟨w.heap.size + 1,4,none⟩ = some (.slice s1 sm1 s2) ∧ W.cell? ⟨w.heap.size + 1,5,none⟩ = some (.slice s3 sm2 s4) ∧ OpenR q W3 W) → (((W.alloc ob)).cell? ⟨w.heap.size,0,none⟩ = some (.int .i64 jso) ∧ ((W.alloc ob)).cell? ⟨w.heap.size,1,none⟩ = some (.bool jon) ∧ ((W.alloc ob)).cell? ⟨w.heap.size,2,none⟩ = some (.int .i64 jn) ∧ ((W.alloc ob)).cell? ⟨w.heap.size,3,none⟩ = some (.string ⟨jt.toArray⟩) ∧ ((W.alloc ob)).cell? ⟨w.heap.size,4,none⟩ = some (.slice j1 jm1 j2) ∧ ((W.alloc ob)).cell? ⟨w.heap.size,5,none⟩ = some (.slice j3 jm2 j4) ∧ ((W.alloc ob)).cell? ⟨w.heap.size + 1,0,none⟩ = some (.int .i64 sso) ∧ ((W.alloc ob)).cell? ⟨w.heap.size + 1,1,none⟩ = some (.bool son) ∧ ((W.alloc ob)).cell? ⟨w.heap.size + 1,2,none⟩ = some (.int .i64 sn) ∧ ((W.alloc ob)).cell? ⟨w.heap.size + 1,3,none⟩ = some (.string ⟨st.toArray⟩) ∧ ((W.alloc ob)).cell? ⟨w.heap.size + 1,4,none⟩ = some (.slice s1 sm1 s2) ∧ ((W.alloc ob)).cell? ⟨w.heap.size + 1,5,none⟩ = some (.slice s3 sm2 s4) ∧ OpenR q W3 ((W.alloc ob))) := fun W ob hS => hc _ (hS.2.2.2.2.2.2.2.2.2.2.2.2.alloc ob)
 have hT : ∀ W i v,(W.cell? ⟨w.heap.size,0,none⟩ = some (.int .i64 jso) ∧ W.cell? ⟨w.heap.size,1,none⟩ = some (.bool jon) ∧ W.cell? ⟨w.heap.size,2,none⟩ = some (.int .i64 jn) ∧ W.cell? ⟨w.heap.size,3,none⟩ = some (.string ⟨jt.toArray⟩) ∧ W.cell? ⟨w.heap.size,4,none⟩ = some (.slice j1 jm1 j2) ∧ W.cell? ⟨w.heap.size,5,none⟩ = some (.slice j3 jm2 j4) ∧ W.cell? ⟨w.heap.size + 1,0,none⟩ = some (.int .i64 sso) ∧ W.cell? ⟨w.heap.size + 1,1,none⟩ = some (.bool son) ∧ W.cell? ⟨w.heap.size + 1,2,none⟩ = some (.int .i64 sn) ∧ W.cell? ⟨w.heap.size + 1,3,none⟩ = some (.string ⟨st.toArray⟩) ∧ W.cell? ⟨w.heap.size + 1,4,none⟩ = some (.slice s1 sm1 s2) ∧ W.cell? ⟨w.heap.size + 1,5,none⟩ = some (.slice s3 sm2 s4) ∧ OpenR q W3 W) → (((W.setCell ⟨q,i,none⟩ v)).cell? ⟨w.heap.size,0,none⟩ = some (.int .i64 jso) ∧ ((W.setCell ⟨q,i,none⟩ v)).cell? ⟨w.heap.size,1,none⟩ = some (.bool jon) ∧ ((W.setCell ⟨q,i,none⟩ v)).cell? ⟨w.heap.size,2,none⟩ = some (.int .i64 jn) ∧ ((W.setCell ⟨q,i,none⟩ v)).cell? ⟨w.heap.size,3,none⟩ = some (.string ⟨jt.toArray⟩) ∧ ((W.setCell ⟨q,i,none⟩ v)).cell? ⟨w.heap.size,4,none⟩ = some (.slice j1 jm1 j2) ∧ ((W.setCell ⟨q,i,none⟩ v)).cell? ⟨w.heap.size,5,none⟩ = some (.slice j3 jm2 j4) ∧ ((W.setCell ⟨q,i,none⟩ v)).cell? ⟨w.heap.size + 1,0,none⟩ = some (.int .i64 sso) ∧ ((W.setCell ⟨q,i,none⟩ v)).cell? ⟨w.heap.size + 1,1,none⟩ = some (.bool son) ∧ ((W.setCell ⟨q,i,none⟩ v)).cell? ⟨w.heap.size + 1,2,none⟩ = some (.int .i64 sn) ∧ ((W.setCell ⟨q,i,none⟩ v)).cell? ⟨w.heap.size + 1,3,none⟩ = some (.string ⟨st.toArray⟩) ∧ ((W.setCell ⟨q,i,none⟩ v)).cell? ⟨w.heap.size + 1,4,none⟩ = some (.slice s1 sm1 s2) ∧ ((W.setCell ⟨q,i,none⟩ v)).cell? ⟨w.heap.size + 1,5,none⟩ = some (.slice s3 sm2 s4) ∧ OpenR q W3 ((W.setCell ⟨q,i,none⟩ v))) := fun W i v hS => hc _ (hS.2.2.2.2.2.2.2.2.2.2.2.2.set i v)
 have hS0 : (W3.drew.cell? ⟨w.heap.size,0,none⟩ = some (.int .i64 jso) ∧ W3.drew.cell? ⟨w.heap.size,1,none⟩ = some (.bool jon) ∧ W3.drew.cell? ⟨w.heap.size,2,none⟩ = some (.int .i64 jn) ∧ W3.drew.cell? ⟨w.heap.size,3,none⟩ = some (.string ⟨jt.toArray⟩) ∧ W3.drew.cell? ⟨w.heap.size,4,none⟩ = some (.slice j1 jm1 j2) ∧ W3.drew.cell? ⟨w.heap.size,5,none⟩ = some (.slice j3 jm2 j4) ∧ W3.drew.cell? ⟨w.heap.size + 1,0,none⟩ = some (.int .i64 sso) ∧ W3.drew.cell? ⟨w.heap.size + 1,1,none⟩ = some (.bool son) ∧ W3.drew.cell? ⟨w.heap.size + 1,2,none⟩ = some (.int .i64 sn) ∧ W3.drew.cell? ⟨w.heap.size + 1,3,none⟩ = some (.string ⟨st.toArray⟩) ∧ W3.drew.cell? ⟨w.heap.size + 1,4,none⟩ = some (.slice s1 sm1 s2) ∧ W3.drew.cell? ⟨w.heap.size + 1,5,none⟩ = some (.slice s3 sm2 s4) ∧ OpenR q W3 W3.drew) := hc _ (OpenR.start hq3).drew
 have hAD : ∀ ob,(((W3.alloc ob).drew).cell? ⟨w.heap.size,0,none⟩ = some (.int .i64 jso) ∧ ((W3.alloc ob).drew).cell? ⟨w.heap.size,1,none⟩ = some (.bool jon) ∧ ((W3.alloc ob).drew).cell? ⟨w.heap.size,2,none⟩ = some (.int .i64 jn) ∧ ((W3.alloc ob).drew).cell? ⟨w.heap.size,3,none⟩ = some (.string ⟨jt.toArray⟩) ∧ ((W3.alloc ob).drew).cell? ⟨w.heap.size,4,none⟩ = some (.slice j1 jm1 j2) ∧ ((W3.alloc ob).drew).cell? ⟨w.heap.size,5,none⟩ = some (.slice j3 jm2 j4) ∧ ((W3.alloc ob).drew).cell? ⟨w.heap.size + 1,0,none⟩ = some (.int .i64 sso) ∧ ((W3.alloc ob).drew).cell? ⟨w.heap.size + 1,1,none⟩ = some (.bool son) ∧ ((W3.alloc ob).drew).cell? ⟨w.heap.size + 1,2,none⟩ = some (.int .i64 sn) ∧ ((W3.alloc ob).drew).cell? ⟨w.heap.size + 1,3,none⟩ = some (.string ⟨st.toArray⟩) ∧ ((W3.alloc ob).drew).cell? ⟨w.heap.size + 1,4,none⟩ = some (.slice s1 sm1 s2) ∧ ((W3.alloc ob).drew).cell? ⟨w.heap.size + 1,5,none⟩ = some (.slice s3 sm2 s4) ∧ OpenR q W3 ((W3.alloc ob).drew)) := fun ob => hc _ ((OpenR.start hq3).alloc ob).drew
 have cS : ∀ s W,(W.cell? ⟨w.heap.size,0,none⟩ = some (.int .i64 jso) ∧ W.cell? ⟨w.heap.size,1,none⟩ = some (.bool jon) ∧ W.cell? ⟨w.heap.size,2,none⟩ = some (.int .i64 jn) ∧ W.cell? ⟨w.heap.size,3,none⟩ = some (.string ⟨jt.toArray⟩) ∧ W.cell? ⟨w.heap.size,4,none⟩ = some (.slice j1 jm1 j2) ∧ W.cell? ⟨w.heap.size,5,none⟩ = some (.slice j3 jm2 j4) ∧ W.cell? ⟨w.heap.size + 1,0,none⟩ = some (.int .i64 sso) ∧ W.cell? ⟨w.heap.size + 1,1,none⟩ = some (.bool son) ∧ W.cell? ⟨w.heap.size + 1,2,none⟩ = some (.int .i64 sn) ∧ W.cell? ⟨w.heap.size + 1,3,none⟩ = some (.string ⟨st.toArray⟩) ∧ W.cell? ⟨w.heap.size + 1,4,none⟩ = some (.slice s1 sm1 s2) ∧ W.cell? ⟨w.heap.size + 1,5,none⟩ = some (.slice s3 sm2 s4) ∧ OpenR q W3 W) → Calls Tryz.prog 53 #[.string s] W fun e w' => e = .returned (.agg #[.int .i64 3,.bool false,.int .i64 0,.string s,.slice none 0 0,.slice none 0 0]) ∧ Hid (Below W.heap.size W w') ∧ (w'.cell? ⟨w.heap.size,0,none⟩ = some (.int .i64 jso) ∧ w'.cell? ⟨w.heap.size,1,none⟩ = some (.bool jon) ∧ w'.cell? ⟨w.heap.size,2,none⟩ = some (.int .i64 jn) ∧ w'.cell? ⟨w.heap.size,3,none⟩ = some (.string ⟨jt.toArray⟩) ∧ w'.cell? ⟨w.heap.size,4,none⟩ = some (.slice j1 jm1 j2) ∧ w'.cell? ⟨w.heap.size,5,none⟩ = some (.slice j3 jm2 j4) ∧ w'.cell? ⟨w.heap.size + 1,0,none⟩ = some (.int .i64 sso) ∧ w'.cell? ⟨w.heap.size + 1,1,none⟩ = some (.bool son) ∧ w'.cell? ⟨w.heap.size + 1,2,none⟩ = some (.int .i64 sn) ∧ w'.cell? ⟨w.heap.size + 1,3,none⟩ = some (.string ⟨st.toArray⟩) ∧ w'.cell? ⟨w.heap.size + 1,4,none⟩ = some (.slice s1 sm1 s2) ∧ w'.cell? ⟨w.heap.size + 1,5,none⟩ = some (.slice s3 sm2 s4) ∧ OpenR q W3 w') := fun s W hS => by
  refine (refstr_any s W).mono ?_
  rintro e w' ⟨rfl,h2⟩
  exact ⟨rfl,Lib.hid h2,hc _ (hS.2.2.2.2.2.2.2.2.2.2.2.2.later h2)⟩
 have cW : ∀ W (gk gl : Nat),(W.cell? ⟨w.heap.size,0,none⟩ = some (.int .i64 jso) ∧ W.cell? ⟨w.heap.size,1,none⟩ = some (.bool jon) ∧ W.cell? ⟨w.heap.size,2,none⟩ = some (.int .i64 jn) ∧ W.cell? ⟨w.heap.size,3,none⟩ = some (.string ⟨jt.toArray⟩) ∧ W.cell? ⟨w.heap.size,4,none⟩ = some (.slice j1 jm1 j2) ∧ W.cell? ⟨w.heap.size,5,none⟩ = some (.slice j3 jm2 j4) ∧ W.cell? ⟨w.heap.size + 1,0,none⟩ = some (.int .i64 sso) ∧ W.cell? ⟨w.heap.size + 1,1,none⟩ = some (.bool son) ∧ W.cell? ⟨w.heap.size + 1,2,none⟩ = some (.int .i64 sn) ∧ W.cell? ⟨w.heap.size + 1,3,none⟩ = some (.string ⟨st.toArray⟩) ∧ W.cell? ⟨w.heap.size + 1,4,none⟩ = some (.slice s1 sm1 s2) ∧ W.cell? ⟨w.heap.size + 1,5,none⟩ = some (.slice s3 sm2 s4) ∧ OpenR q W3 W) → W.heap[gk]? = some (.cells #[.string ⟨#[106,115,111,110,114,112,99]⟩,.string ⟨#[105,100]⟩,.string ⟨#[114,101,115,117,108,116]⟩] 9 (0,0)) → W.heap[gl]? = some (.cells #[.int .i64 3,.bool false,.int .i64 0,.string ⟨#[50,46,48]⟩,.slice none 0 0,.slice none 0 0,.int .i64 jso,.bool jon,.int .i64 jn,.string ⟨jt.toArray⟩,.slice j1 jm1 j2,.slice j3 jm2 j4,.int .i64 sso,.bool son,.int .i64 sn,.string ⟨st.toArray⟩,.slice s1 sm1 s2,.slice s3 sm2 s4] 26 (0,0)) → Calls Tryz.prog 52 #[.slice (some ⟨gk,0,none⟩) 3 3,.slice (some ⟨gl,0,none⟩) 3 3] W fun e w' => ∃ y0 y1 y2 y3 y4 y5,e = .returned (.agg #[.int .i64 5,.bool false,.int .i64 0,.string ⟨#[]⟩,.slice (some ⟨gl,0,none⟩) 3 3,.slice (some ⟨gk,0,none⟩) 3 3]) ∧ Hid (ValIn w' (fun b => b ≠ q) (replyV (.mk jso jon jn jt jl jks) (.mk sso son sn st sl sks)) (.slice (some ⟨gl,0,none⟩) 3 3) (.slice (some ⟨gk,0,none⟩) 3 3)) ∧ w'.cell? ⟨q,0,none⟩ = some y0 ∧ w'.cell? ⟨q,1,none⟩ = some y1 ∧ w'.cell? ⟨q,2,none⟩ = some y2 ∧ w'.cell? ⟨q,3,none⟩ = some y3 ∧ w'.cell? ⟨q,4,none⟩ = some y4 ∧ w'.cell? ⟨q,5,none⟩ = some y5 ∧ (∀ i,w'.frozen? ⟨q,i,none⟩ = false) ∧ Hid (w'.heap[q]? = some (.cells #[y0,y1,y2,y3,y4,y5] 26 (0,0))) ∧ (w'.cell? ⟨w.heap.size,0,none⟩ = some (.int .i64 jso) ∧ w'.cell? ⟨w.heap.size,1,none⟩ = some (.bool jon) ∧ w'.cell? ⟨w.heap.size,2,none⟩ = some (.int .i64 jn) ∧ w'.cell? ⟨w.heap.size,3,none⟩ = some (.string ⟨jt.toArray⟩) ∧ w'.cell? ⟨w.heap.size,4,none⟩ = some (.slice j1 jm1 j2) ∧ w'.cell? ⟨w.heap.size,5,none⟩ = some (.slice j3 jm2 j4) ∧ w'.cell? ⟨w.heap.size + 1,0,none⟩ = some (.int .i64 sso) ∧ w'.cell? ⟨w.heap.size + 1,1,none⟩ = some (.bool son) ∧ w'.cell? ⟨w.heap.size + 1,2,none⟩ = some (.int .i64 sn) ∧ w'.cell? ⟨w.heap.size + 1,3,none⟩ = some (.string ⟨st.toArray⟩) ∧ w'.cell? ⟨w.heap.size + 1,4,none⟩ = some (.slice s1 sm1 s2) ∧ w'.cell? ⟨w.heap.size + 1,5,none⟩ = some (.slice s3 sm2 s4) ∧ OpenR q W3 w') := fun W gk gl hS hgk hgl => by
  refine (refrec_any _ _ _ _ _ _ W).mono ?_
  rintro e w' ⟨rfl,hb⟩
  have hO := hS.2.2.2.2.2.2.2.2.2.2.2.2.later hb
  obtain ⟨y0,y1,y2,y3,y4,y5,k0,k1,k2,k3,k4,k5,kf,hh⟩ := hO.cells
  obtain ⟨_,_,_,_,_,_,hqc⟩ := hS.2.2.2.2.2.2.2.2.2.2.2.2.2.2
  have nk : gk ≠ q := fun h => by rw [h,hqc] at hgk; injection hgk with hgk; injection hgk with _ hgk _; cases hgk
  have nl : gl ≠ q := fun h => by rw [h,hqc] at hgl; injection hgl with hgl; injection hgl with hgl _ _; have := congrArg Array.size hgl; simp at this
  have hv_j3' : ValIn W (fun b => b ≠ q) (.mk jso jon jn jt jl jks) (.slice j1 jm1 j2) (.slice j3 jm2 j4) := ValIn.later (fun g hg hlt => hS.2.2.2.2.2.2.2.2.2.2.2.2.1.block g hlt hg) (fun _ h => h) _ _ _ j3'
  have hv_s3' : ValIn W (fun b => b ≠ q) (.mk sso son sn st sl sks) (.slice s1 sm1 s2) (.slice s3 sm2 s4) := ValIn.later (fun g hg hlt => hS.2.2.2.2.2.2.2.2.2.2.2.2.1.block g hlt hg) (fun _ h => h) _ _ _ s3'
  exact ⟨y0,y1,y2,y3,y4,y5,rfl,Lib.hid (val_below (rec_in (ks := [bJsonrpc,bId,bResult]) (l := [strP bTwo,(.mk jso jon jn jt jl jks),(.mk sso son sn st sl sks)]) hgk hgl rfl rfl nk nl ⟨.slice none 0 0,.slice none 0 0,_,rfl,leaf_in _ _ _ _ _ _,⟨.slice j1 jm1 j2,.slice j3 jm2 j4,_,rfl,hv_j3',⟨.slice s1 sm1 s2,.slice s3 sm2 s4,_,rfl,hv_s3',rfl⟩⟩⟩) hb),k0,k1,k2,k3,k4,k5,kf,hh,hc _ hO⟩
 go_region_held3 (fun W => (W.cell? ⟨w.heap.size,0,none⟩ = some (.int .i64 jso) ∧ W.cell? ⟨w.heap.size,1,none⟩ = some (.bool jon) ∧ W.cell? ⟨w.heap.size,2,none⟩ = some (.int .i64 jn) ∧ W.cell? ⟨w.heap.size,3,none⟩ = some (.string ⟨jt.toArray⟩) ∧ W.cell? ⟨w.heap.size,4,none⟩ = some (.slice j1 jm1 j2) ∧ W.cell? ⟨w.heap.size,5,none⟩ = some (.slice j3 jm2 j4) ∧ W.cell? ⟨w.heap.size + 1,0,none⟩ = some (.int .i64 sso) ∧ W.cell? ⟨w.heap.size + 1,1,none⟩ = some (.bool son) ∧ W.cell? ⟨w.heap.size + 1,2,none⟩ = some (.int .i64 sn) ∧ W.cell? ⟨w.heap.size + 1,3,none⟩ = some (.string ⟨st.toArray⟩) ∧ W.cell? ⟨w.heap.size + 1,4,none⟩ = some (.slice s1 sm1 s2) ∧ W.cell? ⟨w.heap.size + 1,5,none⟩ = some (.slice s3 sm2 s4) ∧ OpenR q W3 W)) (with_reducible (repeat (first | assumption | exact hAD _ | refine hA _ _ ?_ | refine hT _ _ _ ?_))) (first
  | (go_at_call 53; (with_reducible refine (cS ⟨#[50,46,48]⟩ _ ?_).mono ?_); (with_reducible (repeat (first | assumption | exact hAD _ | refine hA _ _ ?_))); rintro e wu ⟨rfl,HBu,hSu⟩)
  | (go_at_call 52; (with_reducible refine (cW _ _ _ ?_ ?_ ?_).mono ?_); (with_reducible (repeat (first | assumption | exact hAD _ | refine hA _ _ ?_))); (first | exact heap_alloc_new _ _ | exact kept_new HBu.out | exact kept_newD HBu.out | exact (two _ _ _).1 | exact (two _ _ _).2.1); (first | exact heap_alloc_new _ _ | exact kept_new HBu.out | exact kept_newD HBu.out | exact (two _ _ _).1 | exact (two _ _ _).2.1); rintro e wq ⟨y0,y1,y2,y3,y4,y5,rfl,hv,k0,k1,k2,k3,k4,k5,kf,hh,hSq⟩))
 all_goals
  obtain ⟨HP1,HMB,HV4⟩ := retR6 hh.out (hSq.2.2.2.2.2.2.2.2.2.2.2.2.below HB3.out hBq (by omega)) hBq hv.out (fun b hb => hb)
  have HVE := Lib.hid (ValIn.later (R' := fun _ => True) (fun _ _ _ => rfl) (fun b hb => trivial) _ _ _ HV4.out)
  clear hA hAD hT hS0 cW
  go_wp2_with fail
  (try simp only [Exit.inBlock,Exit.then])
  refine bodyPost_ret (results_cell_row rfl _ _ q 26 _ (0,0) _ (by rfl) HP1.out Tryz.underlying26 rfl (by kernel_rfl)) rfl ?_
  exact ⟨HMB.out,_,_,rfl,HVE.out⟩
set_option maxHeartbeats 8000000 in
set_option maxRecDepth 100000 in
theorem refnote_any (m : List UInt8) (p : Val) (pl pk : Value) (R : Nat → Prop) (w : World) (hp : ValIn w R p pl pk) :
  Calls Tryz.prog 26 #[.string ⟨m.toArray⟩,arg p pl pk] w fun e w' => Below w.heap.size w w' ∧ ∃ lv kv,e = .returned (arg (noteV m p) lv kv) ∧ ValIn w' (fun _ => True) (noteV m p) lv kv := by
 have s0 : ValIn w (fun g => g < w.heap.size) p pl pk := (ValIn.bound _ _ _ hp).later (fun _ _ _ => rfl) (fun _ h => h.2) _ _ _
 have s0' := hp
 obtain ⟨sso,son,sn,st,sl,sks⟩ := p
 obtain ⟨⟨s1,s2,rfl,_⟩,⟨s3,s4,rfl,_⟩⟩ := s0'
 simp only [arg,six',six,strCell]
 obtain ⟨sm1,hs1⟩ : ∃ m,sl.length = m := ⟨_,rfl⟩
 obtain ⟨sm2,hs2⟩ : ∃ m,sks.length = m := ⟨_,rfl⟩
 rw [hs1,hs2] at s0 ⊢
 clear hp
 obtain ⟨h1,h2,h3,h4⟩ := two w (.cells #[.int .i64 sso,.bool son,.int .i64 sn,.string ⟨st.toArray⟩,.slice s1 sm1 s2,.slice s3 sm2 s4] 26) (.cells #[.int .i64 0,.bool false,.int .i64 0,.string ⟨#[]⟩,.slice none 0 0,.slice none 0 0] 26)
 obtain ⟨W3,hW3⟩ : ∃ W3,(w.alloc (.cells #[.int .i64 sso,.bool son,.int .i64 sn,.string ⟨st.toArray⟩,.slice s1 sm1 s2,.slice s3 sm2 s4] 26)).alloc (.cells #[.int .i64 0,.bool false,.int .i64 0,.string ⟨#[]⟩,.slice none 0 0,.slice none 0 0] 26) = W3 := ⟨_,rfl⟩
 rw [hW3] at h1 h2 h3 h4
 have hz3 : w.heap.size + 2 ≤ W3.heap.size := by omega
 obtain ⟨q,hq⟩ : ∃ q,w.heap.size + 1 = q := ⟨_,rfl⟩
 rw [hq] at h2
 have hq3 := h2
 have HB3 := Lib.hid h3
 have hBq : w.heap.size ≤ q := by omega
 have s3' : ValIn W3 (fun b => b ≠ q) (.mk sso son sn st sl sks) (.slice s1 sm1 s2) (.slice s3 sm2 s4) := ValIn.later (fun g hg _ => HB3.out.block g hg) (fun g hg => by omega) _ _ _ s0
 have p0 : W3.cell? ⟨w.heap.size,0,none⟩ = some (.int .i64 sso) := by unfold World.cell?; rw [h1]; rfl
 have p1 : W3.cell? ⟨w.heap.size,1,none⟩ = some (.bool son) := by unfold World.cell?; rw [h1]; rfl
 have p2 : W3.cell? ⟨w.heap.size,2,none⟩ = some (.int .i64 sn) := by unfold World.cell?; rw [h1]; rfl
 have p3 : W3.cell? ⟨w.heap.size,3,none⟩ = some (.string ⟨st.toArray⟩) := by unfold World.cell?; rw [h1]; rfl
 have p4 : W3.cell? ⟨w.heap.size,4,none⟩ = some (.slice s1 sm1 s2) := by unfold World.cell?; rw [h1]; rfl
 have p5 : W3.cell? ⟨w.heap.size,5,none⟩ = some (.slice s3 sm2 s4) := by unfold World.cell?; rw [h1]; rfl
 clear h1 h2 h3 h4 s0
 go_enter Tryz.func26,Tryz.ntmps26
 go_upto_region 1 with fail
 have hc : ∀ W,OpenR q W3 W → (W.cell? ⟨w.heap.size,0,none⟩ = some (.int .i64 sso) ∧ W.cell? ⟨w.heap.size,1,none⟩ = some (.bool son) ∧ W.cell? ⟨w.heap.size,2,none⟩ = some (.int .i64 sn) ∧ W.cell? ⟨w.heap.size,3,none⟩ = some (.string ⟨st.toArray⟩) ∧ W.cell? ⟨w.heap.size,4,none⟩ = some (.slice s1 sm1 s2) ∧ W.cell? ⟨w.heap.size,5,none⟩ = some (.slice s3 sm2 s4) ∧ OpenR q W3 W) := fun W hO => ⟨hO.cell p0 (by show w.heap.size ≠ q; omega),hO.cell p1 (by show w.heap.size ≠ q; omega),hO.cell p2 (by show w.heap.size ≠ q; omega),hO.cell p3 (by show w.heap.size ≠ q; omega),hO.cell p4 (by show w.heap.size ≠ q; omega),hO.cell p5 (by show w.heap.size ≠ q; omega),hO⟩
 have hA : ∀ W ob,(W.cell? ⟨w.heap.size,0,none⟩ = some (.int .i64 sso) ∧ W.cell? ⟨w.heap.size,1,none⟩ = some (.bool son) ∧ W.cell? ⟨w.heap.size,2,none⟩ = some (.int .i64 sn) ∧ W.cell? ⟨w.heap.size,3,none⟩ = some (.string ⟨st.toArray⟩) ∧ W.cell? ⟨w.heap.size,4,none⟩ = some (.slice s1 sm1 s2) ∧ W.cell? ⟨w.heap.size,5,none⟩ = some (.slice s3 sm2 s4) ∧ OpenR q W3 W) → (((W.alloc ob)).cell? ⟨w.heap.size,0,none⟩ = some (.int .i64 sso) ∧ ((W.alloc ob)).cell? ⟨w.heap.size,1,none⟩ = some (.bool son) ∧ ((W.alloc ob)).cell? ⟨w.heap.size,2,none⟩ = some (.int .i64 sn) ∧ ((W.alloc ob)).cell? ⟨w.heap.size,3,none⟩ = some (.string ⟨st.toArray⟩) ∧ ((W.alloc ob)).cell? ⟨w.heap.size,4,none⟩ = some (.slice s1 sm1 s2) ∧ ((W.alloc ob)).cell? ⟨w.heap.size,5,none⟩ = some (.slice s3 sm2 s4) ∧ OpenR q W3 ((W.alloc ob))) := fun W ob hS => hc _ (hS.2.2.2.2.2.2.alloc ob)
 have hT : ∀ W i v,(W.cell? ⟨w.heap.size,0,none⟩ = some (.int .i64 sso) ∧ W.cell? ⟨w.heap.size,1,none⟩ = some (.bool son) ∧ W.cell? ⟨w.heap.size,2,none⟩ = some (.int .i64 sn) ∧ W.cell? ⟨w.heap.size,3,none⟩ = some (.string ⟨st.toArray⟩) ∧ W.cell? ⟨w.heap.size,4,none⟩ = some (.slice s1 sm1 s2) ∧ W.cell? ⟨w.heap.size,5,none⟩ = some (.slice s3 sm2 s4) ∧ OpenR q W3 W) → (((W.setCell ⟨q,i,none⟩ v)).cell? ⟨w.heap.size,0,none⟩ = some (.int .i64 sso) ∧ ((W.setCell ⟨q,i,none⟩ v)).cell? ⟨w.heap.size,1,none⟩ = some (.bool son) ∧ ((W.setCell ⟨q,i,none⟩ v)).cell? ⟨w.heap.size,2,none⟩ = some (.int .i64 sn) ∧ ((W.setCell ⟨q,i,none⟩ v)).cell? ⟨w.heap.size,3,none⟩ = some (.string ⟨st.toArray⟩) ∧ ((W.setCell ⟨q,i,none⟩ v)).cell? ⟨w.heap.size,4,none⟩ = some (.slice s1 sm1 s2) ∧ ((W.setCell ⟨q,i,none⟩ v)).cell? ⟨w.heap.size,5,none⟩ = some (.slice s3 sm2 s4) ∧ OpenR q W3 ((W.setCell ⟨q,i,none⟩ v))) := fun W i v hS => hc _ (hS.2.2.2.2.2.2.set i v)
 have hS0 : (W3.drew.cell? ⟨w.heap.size,0,none⟩ = some (.int .i64 sso) ∧ W3.drew.cell? ⟨w.heap.size,1,none⟩ = some (.bool son) ∧ W3.drew.cell? ⟨w.heap.size,2,none⟩ = some (.int .i64 sn) ∧ W3.drew.cell? ⟨w.heap.size,3,none⟩ = some (.string ⟨st.toArray⟩) ∧ W3.drew.cell? ⟨w.heap.size,4,none⟩ = some (.slice s1 sm1 s2) ∧ W3.drew.cell? ⟨w.heap.size,5,none⟩ = some (.slice s3 sm2 s4) ∧ OpenR q W3 W3.drew) := hc _ (OpenR.start hq3).drew
 have hAD : ∀ ob,(((W3.alloc ob).drew).cell? ⟨w.heap.size,0,none⟩ = some (.int .i64 sso) ∧ ((W3.alloc ob).drew).cell? ⟨w.heap.size,1,none⟩ = some (.bool son) ∧ ((W3.alloc ob).drew).cell? ⟨w.heap.size,2,none⟩ = some (.int .i64 sn) ∧ ((W3.alloc ob).drew).cell? ⟨w.heap.size,3,none⟩ = some (.string ⟨st.toArray⟩) ∧ ((W3.alloc ob).drew).cell? ⟨w.heap.size,4,none⟩ = some (.slice s1 sm1 s2) ∧ ((W3.alloc ob).drew).cell? ⟨w.heap.size,5,none⟩ = some (.slice s3 sm2 s4) ∧ OpenR q W3 ((W3.alloc ob).drew)) := fun ob => hc _ ((OpenR.start hq3).alloc ob).drew
 have cS : ∀ s W,(W.cell? ⟨w.heap.size,0,none⟩ = some (.int .i64 sso) ∧ W.cell? ⟨w.heap.size,1,none⟩ = some (.bool son) ∧ W.cell? ⟨w.heap.size,2,none⟩ = some (.int .i64 sn) ∧ W.cell? ⟨w.heap.size,3,none⟩ = some (.string ⟨st.toArray⟩) ∧ W.cell? ⟨w.heap.size,4,none⟩ = some (.slice s1 sm1 s2) ∧ W.cell? ⟨w.heap.size,5,none⟩ = some (.slice s3 sm2 s4) ∧ OpenR q W3 W) → Calls Tryz.prog 53 #[.string s] W fun e w' => e = .returned (.agg #[.int .i64 3,.bool false,.int .i64 0,.string s,.slice none 0 0,.slice none 0 0]) ∧ Hid (Below W.heap.size W w') ∧ (w'.cell? ⟨w.heap.size,0,none⟩ = some (.int .i64 sso) ∧ w'.cell? ⟨w.heap.size,1,none⟩ = some (.bool son) ∧ w'.cell? ⟨w.heap.size,2,none⟩ = some (.int .i64 sn) ∧ w'.cell? ⟨w.heap.size,3,none⟩ = some (.string ⟨st.toArray⟩) ∧ w'.cell? ⟨w.heap.size,4,none⟩ = some (.slice s1 sm1 s2) ∧ w'.cell? ⟨w.heap.size,5,none⟩ = some (.slice s3 sm2 s4) ∧ OpenR q W3 w') := fun s W hS => by
  refine (refstr_any s W).mono ?_
  rintro e w' ⟨rfl,h2⟩
  exact ⟨rfl,Lib.hid h2,hc _ (hS.2.2.2.2.2.2.later h2)⟩
 have cW : ∀ W (gk gl : Nat),(W.cell? ⟨w.heap.size,0,none⟩ = some (.int .i64 sso) ∧ W.cell? ⟨w.heap.size,1,none⟩ = some (.bool son) ∧ W.cell? ⟨w.heap.size,2,none⟩ = some (.int .i64 sn) ∧ W.cell? ⟨w.heap.size,3,none⟩ = some (.string ⟨st.toArray⟩) ∧ W.cell? ⟨w.heap.size,4,none⟩ = some (.slice s1 sm1 s2) ∧ W.cell? ⟨w.heap.size,5,none⟩ = some (.slice s3 sm2 s4) ∧ OpenR q W3 W) → W.heap[gk]? = some (.cells #[.string ⟨#[106,115,111,110,114,112,99]⟩,.string ⟨#[109,101,116,104,111,100]⟩,.string ⟨#[112,97,114,97,109,115]⟩] 9 (0,0)) → W.heap[gl]? = some (.cells #[.int .i64 3,.bool false,.int .i64 0,.string ⟨#[50,46,48]⟩,.slice none 0 0,.slice none 0 0,.int .i64 3,.bool false,.int .i64 0,.string ⟨m.toArray⟩,.slice none 0 0,.slice none 0 0,.int .i64 sso,.bool son,.int .i64 sn,.string ⟨st.toArray⟩,.slice s1 sm1 s2,.slice s3 sm2 s4] 26 (0,0)) → Calls Tryz.prog 52 #[.slice (some ⟨gk,0,none⟩) 3 3,.slice (some ⟨gl,0,none⟩) 3 3] W fun e w' => ∃ y0 y1 y2 y3 y4 y5,e = .returned (.agg #[.int .i64 5,.bool false,.int .i64 0,.string ⟨#[]⟩,.slice (some ⟨gl,0,none⟩) 3 3,.slice (some ⟨gk,0,none⟩) 3 3]) ∧ Hid (ValIn w' (fun b => b ≠ q) (noteV m (.mk sso son sn st sl sks)) (.slice (some ⟨gl,0,none⟩) 3 3) (.slice (some ⟨gk,0,none⟩) 3 3)) ∧ w'.cell? ⟨q,0,none⟩ = some y0 ∧ w'.cell? ⟨q,1,none⟩ = some y1 ∧ w'.cell? ⟨q,2,none⟩ = some y2 ∧ w'.cell? ⟨q,3,none⟩ = some y3 ∧ w'.cell? ⟨q,4,none⟩ = some y4 ∧ w'.cell? ⟨q,5,none⟩ = some y5 ∧ (∀ i,w'.frozen? ⟨q,i,none⟩ = false) ∧ Hid (w'.heap[q]? = some (.cells #[y0,y1,y2,y3,y4,y5] 26 (0,0))) ∧ (w'.cell? ⟨w.heap.size,0,none⟩ = some (.int .i64 sso) ∧ w'.cell? ⟨w.heap.size,1,none⟩ = some (.bool son) ∧ w'.cell? ⟨w.heap.size,2,none⟩ = some (.int .i64 sn) ∧ w'.cell? ⟨w.heap.size,3,none⟩ = some (.string ⟨st.toArray⟩) ∧ w'.cell? ⟨w.heap.size,4,none⟩ = some (.slice s1 sm1 s2) ∧ w'.cell? ⟨w.heap.size,5,none⟩ = some (.slice s3 sm2 s4) ∧ OpenR q W3 w') := fun W gk gl hS hgk hgl => by
  refine (refrec_any _ _ _ _ _ _ W).mono ?_
  rintro e w' ⟨rfl,hb⟩
  have hO := hS.2.2.2.2.2.2.later hb
  obtain ⟨y0,y1,y2,y3,y4,y5,k0,k1,k2,k3,k4,k5,kf,hh⟩ := hO.cells
  obtain ⟨_,_,_,_,_,_,hqc⟩ := hS.2.2.2.2.2.2.2.2
  have nk : gk ≠ q := fun h => by rw [h,hqc] at hgk; injection hgk with hgk; injection hgk with _ hgk _; cases hgk
  have nl : gl ≠ q := fun h => by rw [h,hqc] at hgl; injection hgl with hgl; injection hgl with hgl _ _; have := congrArg Array.size hgl; simp at this
  have hv_s3' : ValIn W (fun b => b ≠ q) (.mk sso son sn st sl sks) (.slice s1 sm1 s2) (.slice s3 sm2 s4) := ValIn.later (fun g hg hlt => hS.2.2.2.2.2.2.1.block g hlt hg) (fun _ h => h) _ _ _ s3'
  exact ⟨y0,y1,y2,y3,y4,y5,rfl,Lib.hid (val_below (rec_in (ks := [bJsonrpc,bMethod,bParams]) (l := [strP bTwo,strP m,(.mk sso son sn st sl sks)]) hgk hgl rfl rfl nk nl ⟨.slice none 0 0,.slice none 0 0,_,rfl,leaf_in _ _ _ _ _ _,⟨.slice none 0 0,.slice none 0 0,_,rfl,leaf_in _ _ _ _ _ _,⟨.slice s1 sm1 s2,.slice s3 sm2 s4,_,rfl,hv_s3',rfl⟩⟩⟩) hb),k0,k1,k2,k3,k4,k5,kf,hh,hc _ hO⟩
 go_region_held3 (fun W => (W.cell? ⟨w.heap.size,0,none⟩ = some (.int .i64 sso) ∧ W.cell? ⟨w.heap.size,1,none⟩ = some (.bool son) ∧ W.cell? ⟨w.heap.size,2,none⟩ = some (.int .i64 sn) ∧ W.cell? ⟨w.heap.size,3,none⟩ = some (.string ⟨st.toArray⟩) ∧ W.cell? ⟨w.heap.size,4,none⟩ = some (.slice s1 sm1 s2) ∧ W.cell? ⟨w.heap.size,5,none⟩ = some (.slice s3 sm2 s4) ∧ OpenR q W3 W)) (with_reducible (repeat (first | assumption | exact hAD _ | refine hA _ _ ?_ | refine hT _ _ _ ?_))) (first
  | (go_at_call 53; (with_reducible refine (cS ⟨#[50,46,48]⟩ _ ?_).mono ?_); (with_reducible (repeat (first | assumption | exact hAD _ | refine hA _ _ ?_))); rintro e wu ⟨rfl,HBu,hSu⟩)
  | (go_at_call 53; (with_reducible refine (cS ⟨m.toArray⟩ _ ?_).mono ?_); (with_reducible (repeat (first | assumption | exact hAD _ | refine hA _ _ ?_))); rintro e wz ⟨rfl,HBz,hSz⟩)
  | (go_at_call 52; (with_reducible refine (cW _ _ _ ?_ ?_ ?_).mono ?_); (with_reducible (repeat (first | assumption | exact hAD _ | refine hA _ _ ?_))); (first | exact heap_alloc_new _ _ | exact kept_new HBu.out | exact kept_newD HBu.out | exact (two _ _ _).1 | exact (two _ _ _).2.1 | exact kept_new (HBu.out.trans (HBz.out.mono HBu.out.size)) | exact kept_newD (HBu.out.trans (HBz.out.mono HBu.out.size)) | exact kept_new HBz.out); (first | exact heap_alloc_new _ _ | exact kept_new HBu.out | exact kept_newD HBu.out | exact (two _ _ _).1 | exact (two _ _ _).2.1 | exact kept_new (HBu.out.trans (HBz.out.mono HBu.out.size)) | exact kept_newD (HBu.out.trans (HBz.out.mono HBu.out.size)) | exact kept_new HBz.out); rintro e wq ⟨y0,y1,y2,y3,y4,y5,rfl,hv,k0,k1,k2,k3,k4,k5,kf,hh,hSq⟩))
 all_goals
  obtain ⟨HP1,HMB,HV4⟩ := retR6 hh.out (hSq.2.2.2.2.2.2.below HB3.out hBq (by omega)) hBq hv.out (fun b hb => hb)
  have HVE := Lib.hid (ValIn.later (R' := fun _ => True) (fun _ _ _ => rfl) (fun b hb => trivial) _ _ _ HV4.out)
  clear hA hAD hT hS0 cW
  go_wp2_with fail
  (try simp only [Exit.inBlock,Exit.then])
  refine bodyPost_ret (results_cell_row rfl _ _ q 26 _ (0,0) _ (by rfl) HP1.out Tryz.underlying26 rfl (by kernel_rfl)) rfl ?_
  exact ⟨HMB.out,_,_,rfl,HVE.out⟩
end Go.Proofs.YtcfdalbdndamoaaGreatDoor.M
