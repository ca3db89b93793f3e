/- What the claim needs of the texts MAns1. -/
import Derived.Test.YtcfdalbdndamoaaGreatDoorRA34
namespace Go.Proofs.YtcfdalbdndamoaaGreatDoor.M
open Go.RowKit
open Go.Lib Go.Proofs.YtcfdalbdndamoaaGreatDoor.V
theorem rcopy_m {so n : Int} {on : Bool} {t : List UInt8} {l : List Val} {ks : List (List UInt8)} {a1 a2 : Option Addr} {c1 c2 m1 m2 : Nat} {R : Nat → Prop} {W : World} (hm1 : l.length = m1) (hm2 : ks.length = m2) (hv : ValIn W R (.mk so on n t l ks) (.slice a1 m1 c1) (.slice a2 m2 c2)) (hw : wt (.mk so on n t l ks) ≤ 65536) :
  Calls Tryz.prog 30 #[.agg #[.int .i64 so,.bool on,.int .i64 n,.string ⟨t.toArray⟩,.slice a1 m1 c1,.slice a2 m2 c2]] W fun e w' => ∃ b1 b2 b3 b4,e = .returned (.agg #[.int .i64 so,.bool on,.int .i64 n,.string ⟨t.toArray⟩,.slice b1 m1 b2,.slice b3 m2 b4]) ∧ Hid (ValIn w' (fun b => W.heap.size ≤ b) (.mk so on n t l ks) (.slice b1 m1 b2) (.slice b3 m2 b4)) ∧ Hid (Below W.heap.size W w') := by
 subst hm1; subst hm2
 refine (rcopy_any so on n t l ks a1 a2 c1 c2 R W hv hw).mono ?_
 rintro e w' ⟨hb',lv,kv,rfl,hv⟩
 have hv' := hv
 obtain ⟨⟨b1,b2,rfl,_⟩,⟨b3,b4,rfl,_⟩⟩ := hv'
 exact ⟨b1,b2,b3,b4,rfl,Lib.hid hv,Lib.hid hb'⟩
set_option maxHeartbeats 8000000 in
set_option maxRecDepth 100000 in
theorem reply_any (i r : Val) (il ik rl rk : Value) (R : Nat → Prop) (w : World) (hi : ValIn w R i il ik) (hr : ValIn w R r rl rk) (jw : wt i ≤ 65536) (sw : wt r ≤ 65536) :
  Calls Tryz.prog 21 #[arg i il ik,arg r rl rk] w fun e w' => Below w.heap.size w w' ∧ ∃ lv kv,e = .returned (arg (replyV i r) lv kv) ∧ ValIn w' (fun b => w.heap.size ≤ b) (replyV i r) lv kv := by
 have j0 : ValIn w (fun g => g < w.heap.size) i il ik := (ValIn.bound _ _ _ hi).later (fun _ _ _ => rfl) (fun _ h => h.2) _ _ _
 have j0' := hi
 obtain ⟨jso,jon,jn,jt,jl,jks⟩ := i
 obtain ⟨⟨j1,j2,rfl,_⟩,⟨j3,j4,rfl,_⟩⟩ := j0'
 have s0 : ValIn w (fun g => g < w.heap.size) r rl rk := (ValIn.bound _ _ _ hr).later (fun _ _ _ => rfl) (fun _ h => h.2) _ _ _
 have s0' := hr
 obtain ⟨sso,son,sn,st,sl,sks⟩ := r
 obtain ⟨⟨s1,s2,rfl,_⟩,⟨s3,s4,rfl,_⟩⟩ := s0'
 simp only [arg,six',six,strCell]
 obtain ⟨jm1,hj1⟩ : ∃ m,jl.length = m := ⟨_,rfl⟩
 obtain ⟨jm2,hj2⟩ : ∃ m,jks.length = m := ⟨_,rfl⟩
 rw [hj1,hj2] at j0 ⊢
 obtain ⟨sm1,hs1⟩ : ∃ m,sl.length = m := ⟨_,rfl⟩
 obtain ⟨sm2,hs2⟩ : ∃ m,sks.length = m := ⟨_,rfl⟩
 rw [hs1,hs2] at s0 ⊢
 clear hi hr
 obtain ⟨h1,h2,h3,h4⟩ := three w (.cells #[.int .i64 jso,.bool jon,.int .i64 jn,.string ⟨jt.toArray⟩,.slice j1 jm1 j2,.slice j3 jm2 j4] 36) (.cells #[.int .i64 sso,.bool son,.int .i64 sn,.string ⟨st.toArray⟩,.slice s1 sm1 s2,.slice s3 sm2 s4] 36) (.cells #[.int .i64 0,.bool false,.int .i64 0,.string ⟨#[]⟩,.slice none 0 0,.slice none 0 0] 36)
 obtain ⟨W3,hW3⟩ : ∃ W3,((w.alloc (.cells #[.int .i64 jso,.bool jon,.int .i64 jn,.string ⟨jt.toArray⟩,.slice j1 jm1 j2,.slice j3 jm2 j4] 36)).alloc (.cells #[.int .i64 sso,.bool son,.int .i64 sn,.string ⟨st.toArray⟩,.slice s1 sm1 s2,.slice s3 sm2 s4] 36)).alloc (.cells #[.int .i64 0,.bool false,.int .i64 0,.string ⟨#[]⟩,.slice none 0 0,.slice none 0 0] 36) = W3 := ⟨_,rfl⟩
 rw [hW3] at h1 h2 h3 h4
 have hz3 : w.heap.size + 3 ≤ W3.heap.size := by have := h4.2; omega
 have j3' : ValIn W3 (fun g => g < w.heap.size) (.mk jso jon jn jt jl jks) (.slice j1 jm1 j2) (.slice j3 jm2 j4) := ValIn.later (fun g hg _ => h4.1.block g hg) (fun _ h => h) _ _ _ j0
 have s3' : ValIn W3 (fun g => g < w.heap.size) (.mk sso son sn st sl sks) (.slice s1 sm1 s2) (.slice s3 sm2 s4) := ValIn.later (fun g hg _ => h4.1.block g hg) (fun _ h => h) _ _ _ s0
 obtain ⟨q,hq⟩ : ∃ q,w.heap.size + 1 + 1 = q := ⟨_,rfl⟩
 rw [hq] at h3
 have hq3 := h3
 have HB3 := Lib.hid h4.1
 have hBq : w.heap.size ≤ q := by omega
 have p0 : W3.cell? ⟨w.heap.size,0,none⟩ = some (.int .i64 jso) := by unfold World.cell?; rw [h1]; rfl
 have p1 : W3.cell? ⟨w.heap.size,1,none⟩ = some (.bool jon) := by unfold World.cell?; rw [h1]; rfl
 have p2 : W3.cell? ⟨w.heap.size,2,none⟩ = some (.int .i64 jn) := by unfold World.cell?; rw [h1]; rfl
 have p3 : W3.cell? ⟨w.heap.size,3,none⟩ = some (.string ⟨jt.toArray⟩) := by unfold World.cell?; rw [h1]; rfl
 have p4 : W3.cell? ⟨w.heap.size,4,none⟩ = some (.slice j1 jm1 j2) := by unfold World.cell?; rw [h1]; rfl
 have p5 : W3.cell? ⟨w.heap.size,5,none⟩ = some (.slice j3 jm2 j4) := by unfold World.cell?; rw [h1]; rfl
 have p6 : W3.cell? ⟨w.heap.size + 1,0,none⟩ = some (.int .i64 sso) := by unfold World.cell?; rw [h2]; rfl
 have p7 : W3.cell? ⟨w.heap.size + 1,1,none⟩ = some (.bool son) := by unfold World.cell?; rw [h2]; rfl
 have p8 : W3.cell? ⟨w.heap.size + 1,2,none⟩ = some (.int .i64 sn) := by unfold World.cell?; rw [h2]; rfl
 have p9 : W3.cell? ⟨w.heap.size + 1,3,none⟩ = some (.string ⟨st.toArray⟩) := by unfold World.cell?; rw [h2]; rfl
 have p10 : W3.cell? ⟨w.heap.size + 1,4,none⟩ = some (.slice s1 sm1 s2) := by unfold World.cell?; rw [h2]; rfl
 have p11 : W3.cell? ⟨w.heap.size + 1,5,none⟩ = some (.slice s3 sm2 s4) := by unfold World.cell?; rw [h2]; rfl
 clear h1 h2 h3 h4 j0 s0
 go_enter Tryz.func21,Tryz.ntmps21
 go_upto_region 1 with fail
 have hc : ∀ W,Open q W3 W → (W.cell? ⟨w.heap.size,0,none⟩ = some (.int .i64 jso) ∧ W.cell? ⟨w.heap.size,1,none⟩ = some (.bool jon) ∧ W.cell? ⟨w.heap.size,2,none⟩ = some (.int .i64 jn) ∧ W.cell? ⟨w.heap.size,3,none⟩ = some (.string ⟨jt.toArray⟩) ∧ W.cell? ⟨w.heap.size,4,none⟩ = some (.slice j1 jm1 j2) ∧ W.cell? ⟨w.heap.size,5,none⟩ = some (.slice j3 jm2 j4) ∧ W.cell? ⟨w.heap.size + 1,0,none⟩ = some (.int .i64 sso) ∧ W.cell? ⟨w.heap.size + 1,1,none⟩ = some (.bool son) ∧ W.cell? ⟨w.heap.size + 1,2,none⟩ = some (.int .i64 sn) ∧ W.cell? ⟨w.heap.size + 1,3,none⟩ = some (.string ⟨st.toArray⟩) ∧ W.cell? ⟨w.heap.size + 1,4,none⟩ = some (.slice s1 sm1 s2) ∧ W.cell? ⟨w.heap.size + 1,5,none⟩ = some (.slice s3 sm2 s4) ∧ Open (q) W3 W) := fun W hO => ⟨hO.cell p0 (by show w.heap.size ≠ q; omega),hO.cell p1 (by show w.heap.size ≠ q; omega),hO.cell p2 (by show w.heap.size ≠ q; omega),hO.cell p3 (by show w.heap.size ≠ q; omega),hO.cell p4 (by show w.heap.size ≠ q; omega),hO.cell p5 (by show w.heap.size ≠ q; omega),hO.cell p6 (by show w.heap.size + 1 ≠ q; omega),hO.cell p7 (by show w.heap.size + 1 ≠ q; omega),hO.cell p8 (by show w.heap.size + 1 ≠ q; omega),hO.cell p9 (by show w.heap.size + 1 ≠ q; omega),hO.cell p10 (by show w.heap.size + 1 ≠ q; omega),hO.cell p11 (by show w.heap.size + 1 ≠ q; omega),hO⟩
 have hA : ∀ W ob,(W.cell? ⟨w.heap.size,0,none⟩ = some (.int .i64 jso) ∧ W.cell? ⟨w.heap.size,1,none⟩ = some (.bool jon) ∧ W.cell? ⟨w.heap.size,2,none⟩ = some (.int .i64 jn) ∧ W.cell? ⟨w.heap.size,3,none⟩ = some (.string ⟨jt.toArray⟩) ∧ W.cell? ⟨w.heap.size,4,none⟩ = some (.slice j1 jm1 j2) ∧ W.cell? ⟨w.heap.size,5,none⟩ = some (.slice j3 jm2 j4) ∧ W.cell? ⟨w.heap.size + 1,0,none⟩ = some (.int .i64 sso) ∧ W.cell? ⟨w.heap.size + 1,1,none⟩ = some (.bool son) ∧ W.cell? ⟨w.heap.size + 1,2,none⟩ = some (.int .i64 sn) ∧ W.cell? ⟨w.heap.size + 1,3,none⟩ = some (.string ⟨st.toArray⟩) ∧ W.cell? ⟨w.heap.size + 1,4,none⟩ = some (.slice s1 sm1 s2) ∧ W.cell? ⟨w.heap.size + 1,5,none⟩ = some (.slice s3 sm2 s4) ∧ Open (q) W3 W) → (((W.alloc ob)).cell? ⟨w.heap.size,0,none⟩ = some (.int .i64 jso) ∧ ((W.alloc ob)).cell? ⟨w.heap.size,1,none⟩ = some (.bool jon) ∧ ((W.alloc ob)).cell? ⟨w.heap.size,2,none⟩ = some (.int .i64 jn) ∧ ((W.alloc ob)).cell? ⟨w.heap.size,3,none⟩ = some (.string ⟨jt.toArray⟩) ∧ ((W.alloc ob)).cell? ⟨w.heap.size,4,none⟩ = some (.slice j1 jm1 j2) ∧ ((W.alloc ob)).cell? ⟨w.heap.size,5,none⟩ = some (.slice j3 jm2 j4) ∧ ((W.alloc ob)).cell? ⟨w.heap.size + 1,0,none⟩ = some (.int .i64 sso) ∧ ((W.alloc ob)).cell? ⟨w.heap.size + 1,1,none⟩ = some (.bool son) ∧ ((W.alloc ob)).cell? ⟨w.heap.size + 1,2,none⟩ = some (.int .i64 sn) ∧ ((W.alloc ob)).cell? ⟨w.heap.size + 1,3,none⟩ = some (.string ⟨st.toArray⟩) ∧ ((W.alloc ob)).cell? ⟨w.heap.size + 1,4,none⟩ = some (.slice s1 sm1 s2) ∧ ((W.alloc ob)).cell? ⟨w.heap.size + 1,5,none⟩ = some (.slice s3 sm2 s4) ∧ Open (q) W3 ((W.alloc ob))) := fun W ob hS => hc _ (hS.2.2.2.2.2.2.2.2.2.2.2.2.alloc ob)
 have hT : ∀ W i v,(W.cell? ⟨w.heap.size,0,none⟩ = some (.int .i64 jso) ∧ W.cell? ⟨w.heap.size,1,none⟩ = some (.bool jon) ∧ W.cell? ⟨w.heap.size,2,none⟩ = some (.int .i64 jn) ∧ W.cell? ⟨w.heap.size,3,none⟩ = some (.string ⟨jt.toArray⟩) ∧ W.cell? ⟨w.heap.size,4,none⟩ = some (.slice j1 jm1 j2) ∧ W.cell? ⟨w.heap.size,5,none⟩ = some (.slice j3 jm2 j4) ∧ W.cell? ⟨w.heap.size + 1,0,none⟩ = some (.int .i64 sso) ∧ W.cell? ⟨w.heap.size + 1,1,none⟩ = some (.bool son) ∧ W.cell? ⟨w.heap.size + 1,2,none⟩ = some (.int .i64 sn) ∧ W.cell? ⟨w.heap.size + 1,3,none⟩ = some (.string ⟨st.toArray⟩) ∧ W.cell? ⟨w.heap.size + 1,4,none⟩ = some (.slice s1 sm1 s2) ∧ W.cell? ⟨w.heap.size + 1,5,none⟩ = some (.slice s3 sm2 s4) ∧ Open (q) W3 W) → (((W.setCell ⟨q,i,none⟩ v)).cell? ⟨w.heap.size,0,none⟩ = some (.int .i64 jso) ∧ ((W.setCell ⟨q,i,none⟩ v)).cell? ⟨w.heap.size,1,none⟩ = some (.bool jon) ∧ ((W.setCell ⟨q,i,none⟩ v)).cell? ⟨w.heap.size,2,none⟩ = some (.int .i64 jn) ∧ ((W.setCell ⟨q,i,none⟩ v)).cell? ⟨w.heap.size,3,none⟩ = some (.string ⟨jt.toArray⟩) ∧ ((W.setCell ⟨q,i,none⟩ v)).cell? ⟨w.heap.size,4,none⟩ = some (.slice j1 jm1 j2) ∧ ((W.setCell ⟨q,i,none⟩ v)).cell? ⟨w.heap.size,5,none⟩ = some (.slice j3 jm2 j4) ∧ ((W.setCell ⟨q,i,none⟩ v)).cell? ⟨w.heap.size + 1,0,none⟩ = some (.int .i64 sso) ∧ ((W.setCell ⟨q,i,none⟩ v)).cell? ⟨w.heap.size + 1,1,none⟩ = some (.bool son) ∧ ((W.setCell ⟨q,i,none⟩ v)).cell? ⟨w.heap.size + 1,2,none⟩ = some (.int .i64 sn) ∧ ((W.setCell ⟨q,i,none⟩ v)).cell? ⟨w.heap.size + 1,3,none⟩ = some (.string ⟨st.toArray⟩) ∧ ((W.setCell ⟨q,i,none⟩ v)).cell? ⟨w.heap.size + 1,4,none⟩ = some (.slice s1 sm1 s2) ∧ ((W.setCell ⟨q,i,none⟩ v)).cell? ⟨w.heap.size + 1,5,none⟩ = some (.slice s3 sm2 s4) ∧ Open (q) W3 ((W.setCell ⟨q,i,none⟩ v))) := fun W i v hS => hc _ (hS.2.2.2.2.2.2.2.2.2.2.2.2.set i v)
 have hS0 : (W3.drew.cell? ⟨w.heap.size,0,none⟩ = some (.int .i64 jso) ∧ W3.drew.cell? ⟨w.heap.size,1,none⟩ = some (.bool jon) ∧ W3.drew.cell? ⟨w.heap.size,2,none⟩ = some (.int .i64 jn) ∧ W3.drew.cell? ⟨w.heap.size,3,none⟩ = some (.string ⟨jt.toArray⟩) ∧ W3.drew.cell? ⟨w.heap.size,4,none⟩ = some (.slice j1 jm1 j2) ∧ W3.drew.cell? ⟨w.heap.size,5,none⟩ = some (.slice j3 jm2 j4) ∧ W3.drew.cell? ⟨w.heap.size + 1,0,none⟩ = some (.int .i64 sso) ∧ W3.drew.cell? ⟨w.heap.size + 1,1,none⟩ = some (.bool son) ∧ W3.drew.cell? ⟨w.heap.size + 1,2,none⟩ = some (.int .i64 sn) ∧ W3.drew.cell? ⟨w.heap.size + 1,3,none⟩ = some (.string ⟨st.toArray⟩) ∧ W3.drew.cell? ⟨w.heap.size + 1,4,none⟩ = some (.slice s1 sm1 s2) ∧ W3.drew.cell? ⟨w.heap.size + 1,5,none⟩ = some (.slice s3 sm2 s4) ∧ Open (q) W3 W3.drew) := hc _ (Open.start hq3).drew
 have c0 : ∀ W,(W.cell? ⟨w.heap.size,0,none⟩ = some (.int .i64 jso) ∧ W.cell? ⟨w.heap.size,1,none⟩ = some (.bool jon) ∧ W.cell? ⟨w.heap.size,2,none⟩ = some (.int .i64 jn) ∧ W.cell? ⟨w.heap.size,3,none⟩ = some (.string ⟨jt.toArray⟩) ∧ W.cell? ⟨w.heap.size,4,none⟩ = some (.slice j1 jm1 j2) ∧ W.cell? ⟨w.heap.size,5,none⟩ = some (.slice j3 jm2 j4) ∧ W.cell? ⟨w.heap.size + 1,0,none⟩ = some (.int .i64 sso) ∧ W.cell? ⟨w.heap.size + 1,1,none⟩ = some (.bool son) ∧ W.cell? ⟨w.heap.size + 1,2,none⟩ = some (.int .i64 sn) ∧ W.cell? ⟨w.heap.size + 1,3,none⟩ = some (.string ⟨st.toArray⟩) ∧ W.cell? ⟨w.heap.size + 1,4,none⟩ = some (.slice s1 sm1 s2) ∧ W.cell? ⟨w.heap.size + 1,5,none⟩ = some (.slice s3 sm2 s4) ∧ Open (q) W3 W) → Calls Tryz.prog 30 #[.agg #[.int .i64 jso,.bool jon,.int .i64 jn,.string ⟨jt.toArray⟩,.slice j1 jm1 j2,.slice j3 jm2 j4]] W fun e w' => ∃ b1 b2 b3 b4,e = .returned (.agg #[.int .i64 jso,.bool jon,.int .i64 jn,.string ⟨jt.toArray⟩,.slice b1 jm1 b2,.slice b3 jm2 b4]) ∧ Hid (ValIn w' (fun b => w.heap.size ≤ b ∧ b ≠ q) (.mk jso jon jn jt jl jks) (.slice b1 jm1 b2) (.slice b3 jm2 b4)) ∧ Hid (Below W.heap.size W w') ∧ (w'.cell? ⟨w.heap.size,0,none⟩ = some (.int .i64 jso) ∧ w'.cell? ⟨w.heap.size,1,none⟩ = some (.bool jon) ∧ w'.cell? ⟨w.heap.size,2,none⟩ = some (.int .i64 jn) ∧ w'.cell? ⟨w.heap.size,3,none⟩ = some (.string ⟨jt.toArray⟩) ∧ w'.cell? ⟨w.heap.size,4,none⟩ = some (.slice j1 jm1 j2) ∧ w'.cell? ⟨w.heap.size,5,none⟩ = some (.slice j3 jm2 j4) ∧ w'.cell? ⟨w.heap.size + 1,0,none⟩ = some (.int .i64 sso) ∧ w'.cell? ⟨w.heap.size + 1,1,none⟩ = some (.bool son) ∧ w'.cell? ⟨w.heap.size + 1,2,none⟩ = some (.int .i64 sn) ∧ w'.cell? ⟨w.heap.size + 1,3,none⟩ = some (.string ⟨st.toArray⟩) ∧ w'.cell? ⟨w.heap.size + 1,4,none⟩ = some (.slice s1 sm1 s2) ∧ w'.cell? ⟨w.heap.size + 1,5,none⟩ = some (.slice s3 sm2 s4) ∧ Open (q) W3 w') := fun W hS => by
  refine (rcopy_m hj1 hj2 (ValIn.later (R' := fun g => g < w.heap.size) (fun g hg _ => hS.2.2.2.2.2.2.2.2.2.2.2.2.1.block g (by omega) (by omega)) (fun _ h => h) _ _ _ j3') jw).mono ?_
  rintro e w' ⟨b1,b2,b3,b4,rfl,h1,h2⟩
  have hsz := hS.2.2.2.2.2.2.2.2.2.2.2.2.size
  have hlt := hS.2.2.2.2.2.2.2.2.2.2.2.2.lt
  exact ⟨b1,b2,b3,b4,rfl,Lib.hid (ValIn.later (fun _ _ _ => rfl) (fun b hb => ⟨by omega,by omega⟩) _ _ _ h1.out),h2,hc _ (hS.2.2.2.2.2.2.2.2.2.2.2.2.later h2.out)⟩
 have c1 : ∀ W,(W.cell? ⟨w.heap.size,0,none⟩ = some (.int .i64 jso) ∧ W.cell? ⟨w.heap.size,1,none⟩ = some (.bool jon) ∧ W.cell? ⟨w.heap.size,2,none⟩ = some (.int .i64 jn) ∧ W.cell? ⟨w.heap.size,3,none⟩ = some (.string ⟨jt.toArray⟩) ∧ W.cell? ⟨w.heap.size,4,none⟩ = some (.slice j1 jm1 j2) ∧ W.cell? ⟨w.heap.size,5,none⟩ = some (.slice j3 jm2 j4) ∧ W.cell? ⟨w.heap.size + 1,0,none⟩ = some (.int .i64 sso) ∧ W.cell? ⟨w.heap.size + 1,1,none⟩ = some (.bool son) ∧ W.cell? ⟨w.heap.size + 1,2,none⟩ = some (.int .i64 sn) ∧ W.cell? ⟨w.heap.size + 1,3,none⟩ = some (.string ⟨st.toArray⟩) ∧ W.cell? ⟨w.heap.size + 1,4,none⟩ = some (.slice s1 sm1 s2) ∧ W.cell? ⟨w.heap.size + 1,5,none⟩ = some (.slice s3 sm2 s4) ∧ Open (q) W3 W) → Calls Tryz.prog 30 #[.agg #[.int .i64 sso,.bool son,.int .i64 sn,.string ⟨st.toArray⟩,.slice s1 sm1 s2,.slice s3 sm2 s4]] W fun e w' => ∃ b1 b2 b3 b4,e = .returned (.agg #[.int .i64 sso,.bool son,.int .i64 sn,.string ⟨st.toArray⟩,.slice b1 sm1 b2,.slice b3 sm2 b4]) ∧ Hid (ValIn w' (fun b => w.heap.size ≤ b ∧ b ≠ q) (.mk sso son sn st sl sks) (.slice b1 sm1 b2) (.slice b3 sm2 b4)) ∧ Hid (Below W.heap.size W w') ∧ (w'.cell? ⟨w.heap.size,0,none⟩ = some (.int .i64 jso) ∧ w'.cell? ⟨w.heap.size,1,none⟩ = some (.bool jon) ∧ w'.cell? ⟨w.heap.size,2,none⟩ = some (.int .i64 jn) ∧ w'.cell? ⟨w.heap.size,3,none⟩ = some (.string ⟨jt.toArray⟩) ∧ w'.cell? ⟨w.heap.size,4,none⟩ = some (.slice j1 jm1 j2) ∧ w'.cell? ⟨w.heap.size,5,none⟩ = some (.slice j3 jm2 j4) ∧ w'.cell? ⟨w.heap.size + 1,0,none⟩ = some (.int .i64 sso) ∧ w'.cell? ⟨w.heap.size + 1,1,none⟩ = some (.bool son) ∧ w'.cell? ⟨w.heap.size + 1,2,none⟩ = some (.int .i64 sn) ∧ w'.cell? ⟨w.heap.size + 1,3,none⟩ = some (.string ⟨st.toArray⟩) ∧ w'.cell? ⟨w.heap.size + 1,4,none⟩ = some (.slice s1 sm1 s2) ∧ w'.cell? ⟨w.heap.size + 1,5,none⟩ = some (.slice s3 sm2 s4) ∧ Open (q) W3 w') := fun W hS => by
  refine (rcopy_m hs1 hs2 (ValIn.later (R' := fun g => g < w.heap.size) (fun g hg _ => hS.2.2.2.2.2.2.2.2.2.2.2.2.1.block g (by omega) (by omega)) (fun _ h => h) _ _ _ s3') sw).mono ?_
  rintro e w' ⟨b1,b2,b3,b4,rfl,h1,h2⟩
  have hsz := hS.2.2.2.2.2.2.2.2.2.2.2.2.size
  have hlt := hS.2.2.2.2.2.2.2.2.2.2.2.2.lt
  exact ⟨b1,b2,b3,b4,rfl,Lib.hid (ValIn.later (fun _ _ _ => rfl) (fun b hb => ⟨by omega,by omega⟩) _ _ _ h1.out),h2,hc _ (hS.2.2.2.2.2.2.2.2.2.2.2.2.later h2.out)⟩
 have cW : ∀ W (g : Nat) (u1 : Option Addr) (u3 : Option Addr) (z1 : Option Addr) (z3 : Option Addr) (u2 : Nat) (u4 : Nat) (z2 : Nat) (z4 : Nat),(W.cell? ⟨w.heap.size,0,none⟩ = some (.int .i64 jso) ∧ W.cell? ⟨w.heap.size,1,none⟩ = some (.bool jon) ∧ W.cell? ⟨w.heap.size,2,none⟩ = some (.int .i64 jn) ∧ W.cell? ⟨w.heap.size,3,none⟩ = some (.string ⟨jt.toArray⟩) ∧ W.cell? ⟨w.heap.size,4,none⟩ = some (.slice j1 jm1 j2) ∧ W.cell? ⟨w.heap.size,5,none⟩ = some (.slice j3 jm2 j4) ∧ W.cell? ⟨w.heap.size + 1,0,none⟩ = some (.int .i64 sso) ∧ W.cell? ⟨w.heap.size + 1,1,none⟩ = some (.bool son) ∧ W.cell? ⟨w.heap.size + 1,2,none⟩ = some (.int .i64 sn) ∧ W.cell? ⟨w.heap.size + 1,3,none⟩ = some (.string ⟨st.toArray⟩) ∧ W.cell? ⟨w.heap.size + 1,4,none⟩ = some (.slice s1 sm1 s2) ∧ W.cell? ⟨w.heap.size + 1,5,none⟩ = some (.slice s3 sm2 s4) ∧ Open (q) W3 W) → W.heap[g]? = some (.cells #[.string ⟨#[105,100]⟩,.int .i64 jso,.bool jon,.int .i64 jn,.string ⟨jt.toArray⟩,.slice u1 jm1 u2,.slice u3 jm2 u4,.string ⟨#[114,101,115,117,108,116]⟩,.int .i64 sso,.bool son,.int .i64 sn,.string ⟨st.toArray⟩,.slice z1 sm1 z2,.slice z3 sm2 z4] 78 (0,0)) → ValIn W (fun b => w.heap.size ≤ b ∧ b ≠ q) (.mk jso jon jn jt jl jks) (.slice u1 jm1 u2) (.slice u3 jm2 u4) → ValIn W (fun b => w.heap.size ≤ b ∧ b ≠ q) (.mk sso son sn st sl sks) (.slice z1 sm1 z2) (.slice z3 sm2 z4) → Calls Tryz.prog 33 #[.slice (some ⟨g,0,none⟩) 2 2] W fun e w' => ∃ a c a' c' y0 y1 y2 y3 y4 y5,e = .returned (.agg #[.int .i64 5,.bool false,.int .i64 0,.string ⟨#[]⟩,.slice a 3 c,.slice a' 3 c']) ∧ Hid (ValIn w' (fun b => w.heap.size ≤ b ∧ b ≠ q) (replyV (.mk jso jon jn jt jl jks) (.mk sso son sn st sl sks)) (.slice a 3 c) (.slice a' 3 c')) ∧ w'.cell? ⟨q,0,none⟩ = some y0 ∧ w'.cell? ⟨q,1,none⟩ = some y1 ∧ w'.cell? ⟨q,2,none⟩ = some y2 ∧ w'.cell? ⟨q,3,none⟩ = some y3 ∧ w'.cell? ⟨q,4,none⟩ = some y4 ∧ w'.cell? ⟨q,5,none⟩ = some y5 ∧ (∀ i,w'.frozen? ⟨q,i,none⟩ = false) ∧ Hid (w'.heap[q]? = some (.cells #[y0,y1,y2,y3,y4,y5] 36 (0,0))) ∧ (w'.cell? ⟨w.heap.size,0,none⟩ = some (.int .i64 jso) ∧ w'.cell? ⟨w.heap.size,1,none⟩ = some (.bool jon) ∧ w'.cell? ⟨w.heap.size,2,none⟩ = some (.int .i64 jn) ∧ w'.cell? ⟨w.heap.size,3,none⟩ = some (.string ⟨jt.toArray⟩) ∧ w'.cell? ⟨w.heap.size,4,none⟩ = some (.slice j1 jm1 j2) ∧ w'.cell? ⟨w.heap.size,5,none⟩ = some (.slice j3 jm2 j4) ∧ w'.cell? ⟨w.heap.size + 1,0,none⟩ = some (.int .i64 sso) ∧ w'.cell? ⟨w.heap.size + 1,1,none⟩ = some (.bool son) ∧ w'.cell? ⟨w.heap.size + 1,2,none⟩ = some (.int .i64 sn) ∧ w'.cell? ⟨w.heap.size + 1,3,none⟩ = some (.string ⟨st.toArray⟩) ∧ w'.cell? ⟨w.heap.size + 1,4,none⟩ = some (.slice s1 sm1 s2) ∧ w'.cell? ⟨w.heap.size + 1,5,none⟩ = some (.slice s3 sm2 s4) ∧ Open (q) W3 w') := fun W g u1 u3 z1 z3 u2 u4 z2 z4 hS hg pv0 pv1 => by
  have hP : PartsAt W (fun b => w.heap.size ≤ b ∧ b ≠ q) [(bId,(.mk jso jon jn jt jl jks)),(bResult,(.mk sso son sn st sl sks))] g 0 := ⟨_,cells_of_block hg,.slice u1 jm1 u2,.slice u3 jm2 u4,_,rfl,pv0,.slice z1 sm1 z2,.slice z3 sm2 z4,[],rfl,pv1,rfl⟩
  have hm := written_any [(bId,(.mk jso jon jn jt jl jks)),(bResult,(.mk sso son sn st sl sks))] g 0 2 _ W hP (by simp) (by simp)
  simp only [List.length_cons,List.length_nil,Nat.zero_add,List.map_cons,List.map_nil] at hm
  refine hm.mono ?_
  rintro e w' ⟨hb,lv,kv,rfl,hv⟩
  have hv' := hv
  obtain ⟨⟨a,c,rfl,_⟩,⟨a',c',rfl,_⟩⟩ := hv'
  have hO := hS.2.2.2.2.2.2.2.2.2.2.2.2.later hb
  have hlt := hS.2.2.2.2.2.2.2.2.2.2.2.2.lt
  obtain ⟨y0,y1,y2,y3,y4,y5,k0,k1,k2,k3,k4,k5,kf,hh⟩ := hO.cells
  exact ⟨a,c,a',c',y0,y1,y2,y3,y4,y5,rfl,Lib.hid (ValIn.later (fun _ _ _ => rfl) (fun b hb2 => by have := hS.2.2.2.2.2.2.2.2.2.2.2.2.size; rcases hb2 with h | h <;> omega) _ _ _ hv),k0,k1,k2,k3,k4,k5,kf,hh,hc _ hO⟩
 go_upto_region 1 with fail
 go_region_held3 (fun W => (W.cell? ⟨w.heap.size,0,none⟩ = some (.int .i64 jso) ∧ W.cell? ⟨w.heap.size,1,none⟩ = some (.bool jon) ∧ W.cell? ⟨w.heap.size,2,none⟩ = some (.int .i64 jn) ∧ W.cell? ⟨w.heap.size,3,none⟩ = some (.string ⟨jt.toArray⟩) ∧ W.cell? ⟨w.heap.size,4,none⟩ = some (.slice j1 jm1 j2) ∧ W.cell? ⟨w.heap.size,5,none⟩ = some (.slice j3 jm2 j4) ∧ W.cell? ⟨w.heap.size + 1,0,none⟩ = some (.int .i64 sso) ∧ W.cell? ⟨w.heap.size + 1,1,none⟩ = some (.bool son) ∧ W.cell? ⟨w.heap.size + 1,2,none⟩ = some (.int .i64 sn) ∧ W.cell? ⟨w.heap.size + 1,3,none⟩ = some (.string ⟨st.toArray⟩) ∧ W.cell? ⟨w.heap.size + 1,4,none⟩ = some (.slice s1 sm1 s2) ∧ W.cell? ⟨w.heap.size + 1,5,none⟩ = some (.slice s3 sm2 s4) ∧ Open (q) W3 W)) (with_reducible (repeat (first | assumption | refine hA _ _ ?_ | refine hT _ _ _ ?_))) (first
  | (go_at_call 30; (with_reducible refine (c0 _ ?_).mono ?_); (with_reducible (repeat (first | assumption | refine hA _ _ ?_))); rintro e wu ⟨u1,u2,u3,u4,rfl,HVu,HBu,hSu⟩)
  | (go_at_call 30; (with_reducible refine (c1 _ ?_).mono ?_); (with_reducible (repeat (first | assumption | refine hA _ _ ?_))); rintro e wz ⟨z1,z2,z3,z4,rfl,HVz,HBz,hSz⟩)
  | (go_at_call 33; (with_reducible refine (cW _ _ u1 u3 z1 z3 u2 u4 z2 z4 ?_ ?_ ?_ ?_).mono ?_); (with_reducible (repeat (first | assumption | refine hA _ _ ?_))); (exact heap_alloc_new _ _); (exact val_below (val_below (HVu.out) HBz.out) ((Below.refl _ _).alloc (Nat.le_refl _) _)); (exact val_below HVz.out ((Below.refl _ _).alloc (Nat.le_refl _) _)); rintro e wq ⟨a,c,a',c',y0,y1,y2,y3,y4,y5,rfl,hv,k0,k1,k2,k3,k4,k5,kf,hh,hSq⟩))
 obtain ⟨HP1,HMB,HV4⟩ := ret6 hh.out (hSq.2.2.2.2.2.2.2.2.2.2.2.2.below HB3.out hBq (by omega)) hBq hv.out (fun b hb => hb.2)
 have HVE := Lib.hid (ValIn.later (R' := fun b => w.heap.size ≤ b) (fun _ _ _ => rfl) (fun b hb => hb.1) _ _ _ HV4.out)
 clear hA hT hS0 cW
 go_wp2_with fail
 (try simp only [Exit.inBlock,Exit.then])
 refine bodyPost_ret (v := .agg #[.int .i64 5,.bool false,.int .i64 0,.string ⟨#[]⟩,.slice a 3 c,.slice a' 3 c']) (results_cell_row rfl _ _ q 36 #[.int .i64 5,.bool false,.int .i64 0,.string ⟨#[]⟩,.slice a 3 c,.slice a' 3 c'] (0,0) _ (by rfl) HP1.out Tryz.underlying36 rfl (by kernel_rfl)) rfl ?_
 exact ⟨HMB.out,.slice a 3 c,.slice a' 3 c',rfl,HVE.out⟩
set_option maxHeartbeats 8000000 in
set_option maxRecDepth 100000 in
theorem note_any (m : List UInt8) (p : Val) (pl pk : Value) (R : Nat → Prop) (w : World) (hp : ValIn w R p pl pk) (sw : wt p ≤ 65536) :
  Calls Tryz.prog 23 #[.string ⟨m.toArray⟩,arg p pl pk] w fun e w' => Below w.heap.size w w' ∧ ∃ lv kv,e = .returned (arg (noteV m p) lv kv) ∧ ValIn w' (fun b => w.heap.size ≤ b) (noteV m p) lv kv := by
 have s0 : ValIn w (fun g => g < w.heap.size) p pl pk := (ValIn.bound _ _ _ hp).later (fun _ _ _ => rfl) (fun _ h => h.2) _ _ _
 have s0' := hp
 obtain ⟨sso,son,sn,st,sl,sks⟩ := p
 obtain ⟨⟨s1,s2,rfl,_⟩,⟨s3,s4,rfl,_⟩⟩ := s0'
 simp only [arg,six',six,strCell]
 obtain ⟨sm1,hs1⟩ : ∃ m,sl.length = m := ⟨_,rfl⟩
 obtain ⟨sm2,hs2⟩ : ∃ m,sks.length = m := ⟨_,rfl⟩
 rw [hs1,hs2] at s0 ⊢
 clear hp
 obtain ⟨h1,h2,h3,h4⟩ := two w (.cells #[.int .i64 sso,.bool son,.int .i64 sn,.string ⟨st.toArray⟩,.slice s1 sm1 s2,.slice s3 sm2 s4] 36) (.cells #[.int .i64 0,.bool false,.int .i64 0,.string ⟨#[]⟩,.slice none 0 0,.slice none 0 0] 36)
 obtain ⟨W3,hW3⟩ : ∃ W3,(w.alloc (.cells #[.int .i64 sso,.bool son,.int .i64 sn,.string ⟨st.toArray⟩,.slice s1 sm1 s2,.slice s3 sm2 s4] 36)).alloc (.cells #[.int .i64 0,.bool false,.int .i64 0,.string ⟨#[]⟩,.slice none 0 0,.slice none 0 0] 36) = W3 := ⟨_,rfl⟩
 rw [hW3] at h1 h2 h3 h4
 have hz3 : w.heap.size + 2 ≤ W3.heap.size := by omega
 have s3' : ValIn W3 (fun g => g < w.heap.size) (.mk sso son sn st sl sks) (.slice s1 sm1 s2) (.slice s3 sm2 s4) := ValIn.later (fun g hg _ => h3.block g hg) (fun _ h => h) _ _ _ s0
 obtain ⟨q,hq⟩ : ∃ q,w.heap.size + 1 = q := ⟨_,rfl⟩
 rw [hq] at h2
 have hq3 := h2
 have HB3 := Lib.hid h3
 have hBq : w.heap.size ≤ q := by omega
 have p0 : W3.cell? ⟨w.heap.size,0,none⟩ = some (.int .i64 sso) := by unfold World.cell?; rw [h1]; rfl
 have p1 : W3.cell? ⟨w.heap.size,1,none⟩ = some (.bool son) := by unfold World.cell?; rw [h1]; rfl
 have p2 : W3.cell? ⟨w.heap.size,2,none⟩ = some (.int .i64 sn) := by unfold World.cell?; rw [h1]; rfl
 have p3 : W3.cell? ⟨w.heap.size,3,none⟩ = some (.string ⟨st.toArray⟩) := by unfold World.cell?; rw [h1]; rfl
 have p4 : W3.cell? ⟨w.heap.size,4,none⟩ = some (.slice s1 sm1 s2) := by unfold World.cell?; rw [h1]; rfl
 have p5 : W3.cell? ⟨w.heap.size,5,none⟩ = some (.slice s3 sm2 s4) := by unfold World.cell?; rw [h1]; rfl
 clear h1 h2 h3 h4 s0
 go_enter Tryz.func23,Tryz.ntmps23
 go_upto_region 1 with fail
 have hc : ∀ W,Open q W3 W → (W.cell? ⟨w.heap.size,0,none⟩ = some (.int .i64 sso) ∧ W.cell? ⟨w.heap.size,1,none⟩ = some (.bool son) ∧ W.cell? ⟨w.heap.size,2,none⟩ = some (.int .i64 sn) ∧ W.cell? ⟨w.heap.size,3,none⟩ = some (.string ⟨st.toArray⟩) ∧ W.cell? ⟨w.heap.size,4,none⟩ = some (.slice s1 sm1 s2) ∧ W.cell? ⟨w.heap.size,5,none⟩ = some (.slice s3 sm2 s4) ∧ Open (q) W3 W) := fun W hO => ⟨hO.cell p0 (by show w.heap.size ≠ q; omega),hO.cell p1 (by show w.heap.size ≠ q; omega),hO.cell p2 (by show w.heap.size ≠ q; omega),hO.cell p3 (by show w.heap.size ≠ q; omega),hO.cell p4 (by show w.heap.size ≠ q; omega),hO.cell p5 (by show w.heap.size ≠ q; omega),hO⟩
 have hA : ∀ W ob,(W.cell? ⟨w.heap.size,0,none⟩ = some (.int .i64 sso) ∧ W.cell? ⟨w.heap.size,1,none⟩ = some (.bool son) ∧ W.cell? ⟨w.heap.size,2,none⟩ = some (.int .i64 sn) ∧ W.cell? ⟨w.heap.size,3,none⟩ = some (.string ⟨st.toArray⟩) ∧ W.cell? ⟨w.heap.size,4,none⟩ = some (.slice s1 sm1 s2) ∧ W.cell? ⟨w.heap.size,5,none⟩ = some (.slice s3 sm2 s4) ∧ Open (q) W3 W) → (((W.alloc ob)).cell? ⟨w.heap.size,0,none⟩ = some (.int .i64 sso) ∧ ((W.alloc ob)).cell? ⟨w.heap.size,1,none⟩ = some (.bool son) ∧ ((W.alloc ob)).cell? ⟨w.heap.size,2,none⟩ = some (.int .i64 sn) ∧ ((W.alloc ob)).cell? ⟨w.heap.size,3,none⟩ = some (.string ⟨st.toArray⟩) ∧ ((W.alloc ob)).cell? ⟨w.heap.size,4,none⟩ = some (.slice s1 sm1 s2) ∧ ((W.alloc ob)).cell? ⟨w.heap.size,5,none⟩ = some (.slice s3 sm2 s4) ∧ Open (q) W3 ((W.alloc ob))) := fun W ob hS => hc _ (hS.2.2.2.2.2.2.alloc ob)
 have hT : ∀ W i v,(W.cell? ⟨w.heap.size,0,none⟩ = some (.int .i64 sso) ∧ W.cell? ⟨w.heap.size,1,none⟩ = some (.bool son) ∧ W.cell? ⟨w.heap.size,2,none⟩ = some (.int .i64 sn) ∧ W.cell? ⟨w.heap.size,3,none⟩ = some (.string ⟨st.toArray⟩) ∧ W.cell? ⟨w.heap.size,4,none⟩ = some (.slice s1 sm1 s2) ∧ W.cell? ⟨w.heap.size,5,none⟩ = some (.slice s3 sm2 s4) ∧ Open (q) W3 W) → (((W.setCell ⟨q,i,none⟩ v)).cell? ⟨w.heap.size,0,none⟩ = some (.int .i64 sso) ∧ ((W.setCell ⟨q,i,none⟩ v)).cell? ⟨w.heap.size,1,none⟩ = some (.bool son) ∧ ((W.setCell ⟨q,i,none⟩ v)).cell? ⟨w.heap.size,2,none⟩ = some (.int .i64 sn) ∧ ((W.setCell ⟨q,i,none⟩ v)).cell? ⟨w.heap.size,3,none⟩ = some (.string ⟨st.toArray⟩) ∧ ((W.setCell ⟨q,i,none⟩ v)).cell? ⟨w.heap.size,4,none⟩ = some (.slice s1 sm1 s2) ∧ ((W.setCell ⟨q,i,none⟩ v)).cell? ⟨w.heap.size,5,none⟩ = some (.slice s3 sm2 s4) ∧ Open (q) W3 ((W.setCell ⟨q,i,none⟩ v))) := fun W i v hS => hc _ (hS.2.2.2.2.2.2.set i v)
 have hS0 : (W3.drew.cell? ⟨w.heap.size,0,none⟩ = some (.int .i64 sso) ∧ W3.drew.cell? ⟨w.heap.size,1,none⟩ = some (.bool son) ∧ W3.drew.cell? ⟨w.heap.size,2,none⟩ = some (.int .i64 sn) ∧ W3.drew.cell? ⟨w.heap.size,3,none⟩ = some (.string ⟨st.toArray⟩) ∧ W3.drew.cell? ⟨w.heap.size,4,none⟩ = some (.slice s1 sm1 s2) ∧ W3.drew.cell? ⟨w.heap.size,5,none⟩ = some (.slice s3 sm2 s4) ∧ Open (q) W3 W3.drew) := hc _ (Open.start hq3).drew
 have c0 : ∀ W,(W.cell? ⟨w.heap.size,0,none⟩ = some (.int .i64 sso) ∧ W.cell? ⟨w.heap.size,1,none⟩ = some (.bool son) ∧ W.cell? ⟨w.heap.size,2,none⟩ = some (.int .i64 sn) ∧ W.cell? ⟨w.heap.size,3,none⟩ = some (.string ⟨st.toArray⟩) ∧ W.cell? ⟨w.heap.size,4,none⟩ = some (.slice s1 sm1 s2) ∧ W.cell? ⟨w.heap.size,5,none⟩ = some (.slice s3 sm2 s4) ∧ Open (q) W3 W) → Calls Tryz.prog 31 #[.string ⟨m.toArray⟩] W fun e w' => e = .returned (.agg #[.int .i64 3,.bool false,.int .i64 0,.string ⟨m.toArray⟩,.slice none 0 0,.slice none 0 0]) ∧ Hid (Below W.heap.size W w') ∧ (w'.cell? ⟨w.heap.size,0,none⟩ = some (.int .i64 sso) ∧ w'.cell? ⟨w.heap.size,1,none⟩ = some (.bool son) ∧ w'.cell? ⟨w.heap.size,2,none⟩ = some (.int .i64 sn) ∧ w'.cell? ⟨w.heap.size,3,none⟩ = some (.string ⟨st.toArray⟩) ∧ w'.cell? ⟨w.heap.size,4,none⟩ = some (.slice s1 sm1 s2) ∧ w'.cell? ⟨w.heap.size,5,none⟩ = some (.slice s3 sm2 s4) ∧ Open (q) W3 w') := fun W hS => by
  refine (text_any _ W).mono ?_
  rintro e w' ⟨rfl,h2⟩
  exact ⟨rfl,Lib.hid h2,hc _ (hS.2.2.2.2.2.2.later h2)⟩
 have c1 : ∀ W,(W.cell? ⟨w.heap.size,0,none⟩ = some (.int .i64 sso) ∧ W.cell? ⟨w.heap.size,1,none⟩ = some (.bool son) ∧ W.cell? ⟨w.heap.size,2,none⟩ = some (.int .i64 sn) ∧ W.cell? ⟨w.heap.size,3,none⟩ = some (.string ⟨st.toArray⟩) ∧ W.cell? ⟨w.heap.size,4,none⟩ = some (.slice s1 sm1 s2) ∧ W.cell? ⟨w.heap.size,5,none⟩ = some (.slice s3 sm2 s4) ∧ Open (q) W3 W) → Calls Tryz.prog 30 #[.agg #[.int .i64 sso,.bool son,.int .i64 sn,.string ⟨st.toArray⟩,.slice s1 sm1 s2,.slice s3 sm2 s4]] W fun e w' => ∃ b1 b2 b3 b4,e = .returned (.agg #[.int .i64 sso,.bool son,.int .i64 sn,.string ⟨st.toArray⟩,.slice b1 sm1 b2,.slice b3 sm2 b4]) ∧ Hid (ValIn w' (fun b => w.heap.size ≤ b ∧ b ≠ q) (.mk sso son sn st sl sks) (.slice b1 sm1 b2) (.slice b3 sm2 b4)) ∧ Hid (Below W.heap.size W w') ∧ (w'.cell? ⟨w.heap.size,0,none⟩ = some (.int .i64 sso) ∧ w'.cell? ⟨w.heap.size,1,none⟩ = some (.bool son) ∧ w'.cell? ⟨w.heap.size,2,none⟩ = some (.int .i64 sn) ∧ w'.cell? ⟨w.heap.size,3,none⟩ = some (.string ⟨st.toArray⟩) ∧ w'.cell? ⟨w.heap.size,4,none⟩ = some (.slice s1 sm1 s2) ∧ w'.cell? ⟨w.heap.size,5,none⟩ = some (.slice s3 sm2 s4) ∧ Open (q) W3 w') := fun W hS => by
  refine (rcopy_m hs1 hs2 (ValIn.later (R' := fun g => g < w.heap.size) (fun g hg _ => hS.2.2.2.2.2.2.1.block g (by omega) (by omega)) (fun _ h => h) _ _ _ s3') sw).mono ?_
  rintro e w' ⟨b1,b2,b3,b4,rfl,h1,h2⟩
  have hsz := hS.2.2.2.2.2.2.size
  have hlt := hS.2.2.2.2.2.2.lt
  exact ⟨b1,b2,b3,b4,rfl,Lib.hid (ValIn.later (fun _ _ _ => rfl) (fun b hb => ⟨by omega,by omega⟩) _ _ _ h1.out),h2,hc _ (hS.2.2.2.2.2.2.later h2.out)⟩
 have cW : ∀ W (g : Nat) (z1 : Option Addr) (z3 : Option Addr) (z2 : Nat) (z4 : Nat),(W.cell? ⟨w.heap.size,0,none⟩ = some (.int .i64 sso) ∧ W.cell? ⟨w.heap.size,1,none⟩ = some (.bool son) ∧ W.cell? ⟨w.heap.size,2,none⟩ = some (.int .i64 sn) ∧ W.cell? ⟨w.heap.size,3,none⟩ = some (.string ⟨st.toArray⟩) ∧ W.cell? ⟨w.heap.size,4,none⟩ = some (.slice s1 sm1 s2) ∧ W.cell? ⟨w.heap.size,5,none⟩ = some (.slice s3 sm2 s4) ∧ Open (q) W3 W) → W.heap[g]? = some (.cells #[.string ⟨#[109,101,116,104,111,100]⟩,.int .i64 3,.bool false,.int .i64 0,.string ⟨m.toArray⟩,.slice none 0 0,.slice none 0 0,.string ⟨#[112,97,114,97,109,115]⟩,.int .i64 sso,.bool son,.int .i64 sn,.string ⟨st.toArray⟩,.slice z1 sm1 z2,.slice z3 sm2 z4] 78 (0,0)) → ValIn W (fun b => w.heap.size ≤ b ∧ b ≠ q) (strP m) (.slice none 0 0) (.slice none 0 0) → ValIn W (fun b => w.heap.size ≤ b ∧ b ≠ q) (.mk sso son sn st sl sks) (.slice z1 sm1 z2) (.slice z3 sm2 z4) → Calls Tryz.prog 33 #[.slice (some ⟨g,0,none⟩) 2 2] W fun e w' => ∃ a c a' c' y0 y1 y2 y3 y4 y5,e = .returned (.agg #[.int .i64 5,.bool false,.int .i64 0,.string ⟨#[]⟩,.slice a 3 c,.slice a' 3 c']) ∧ Hid (ValIn w' (fun b => w.heap.size ≤ b ∧ b ≠ q) (noteV m (.mk sso son sn st sl sks)) (.slice a 3 c) (.slice a' 3 c')) ∧ w'.cell? ⟨q,0,none⟩ = some y0 ∧ w'.cell? ⟨q,1,none⟩ = some y1 ∧ w'.cell? ⟨q,2,none⟩ = some y2 ∧ w'.cell? ⟨q,3,none⟩ = some y3 ∧ w'.cell? ⟨q,4,none⟩ = some y4 ∧ w'.cell? ⟨q,5,none⟩ = some y5 ∧ (∀ i,w'.frozen? ⟨q,i,none⟩ = false) ∧ Hid (w'.heap[q]? = some (.cells #[y0,y1,y2,y3,y4,y5] 36 (0,0))) ∧ (w'.cell? ⟨w.heap.size,0,none⟩ = some (.int .i64 sso) ∧ w'.cell? ⟨w.heap.size,1,none⟩ = some (.bool son) ∧ w'.cell? ⟨w.heap.size,2,none⟩ = some (.int .i64 sn) ∧ w'.cell? ⟨w.heap.size,3,none⟩ = some (.string ⟨st.toArray⟩) ∧ w'.cell? ⟨w.heap.size,4,none⟩ = some (.slice s1 sm1 s2) ∧ w'.cell? ⟨w.heap.size,5,none⟩ = some (.slice s3 sm2 s4) ∧ Open (q) W3 w') := fun W g z1 z3 z2 z4 hS hg pv0 pv1 => by
  have hP : PartsAt W (fun b => w.heap.size ≤ b ∧ b ≠ q) [(bMethod,(strP m)),(bParams,(.mk sso son sn st sl sks))] g 0 := ⟨_,cells_of_block hg,.slice none 0 0,.slice none 0 0,_,rfl,pv0,.slice z1 sm1 z2,.slice z3 sm2 z4,[],rfl,pv1,rfl⟩
  have hm := written_any [(bMethod,(strP m)),(bParams,(.mk sso son sn st sl sks))] g 0 2 _ W hP (by simp) (by simp)
  simp only [List.length_cons,List.length_nil,Nat.zero_add,List.map_cons,List.map_nil] at hm
  refine hm.mono ?_
  rintro e w' ⟨hb,lv,kv,rfl,hv⟩
  have hv' := hv
  obtain ⟨⟨a,c,rfl,_⟩,⟨a',c',rfl,_⟩⟩ := hv'
  have hO := hS.2.2.2.2.2.2.later hb
  have hlt := hS.2.2.2.2.2.2.lt
  obtain ⟨y0,y1,y2,y3,y4,y5,k0,k1,k2,k3,k4,k5,kf,hh⟩ := hO.cells
  exact ⟨a,c,a',c',y0,y1,y2,y3,y4,y5,rfl,Lib.hid (ValIn.later (fun _ _ _ => rfl) (fun b hb2 => by have := hS.2.2.2.2.2.2.size; rcases hb2 with h | h <;> omega) _ _ _ hv),k0,k1,k2,k3,k4,k5,kf,hh,hc _ hO⟩
 go_upto_region 1 with fail
 go_region_held3 (fun W => (W.cell? ⟨w.heap.size,0,none⟩ = some (.int .i64 sso) ∧ W.cell? ⟨w.heap.size,1,none⟩ = some (.bool son) ∧ W.cell? ⟨w.heap.size,2,none⟩ = some (.int .i64 sn) ∧ W.cell? ⟨w.heap.size,3,none⟩ = some (.string ⟨st.toArray⟩) ∧ W.cell? ⟨w.heap.size,4,none⟩ = some (.slice s1 sm1 s2) ∧ W.cell? ⟨w.heap.size,5,none⟩ = some (.slice s3 sm2 s4) ∧ Open (q) W3 W)) (with_reducible (repeat (first | assumption | refine hA _ _ ?_ | refine hT _ _ _ ?_))) (first
  | (go_at_call 31; (with_reducible refine (c0 _ ?_).mono ?_); (with_reducible (repeat (first | assumption | refine hA _ _ ?_))); rintro e wu ⟨rfl,HBu,hSu⟩)
  | (go_at_call 30; (with_reducible refine (c1 _ ?_).mono ?_); (with_reducible (repeat (first | assumption | refine hA _ _ ?_))); rintro e wz ⟨z1,z2,z3,z4,rfl,HVz,HBz,hSz⟩)
  | (go_at_call 33; (with_reducible refine (cW _ _ z1 z3 z2 z4 ?_ ?_ ?_ ?_).mono ?_); (with_reducible (repeat (first | assumption | refine hA _ _ ?_))); (exact heap_alloc_new _ _); (exact leaf_in _ _ _ _ _ _); (exact val_below HVz.out ((Below.refl _ _).alloc (Nat.le_refl _) _)); rintro e wq ⟨a,c,a',c',y0,y1,y2,y3,y4,y5,rfl,hv,k0,k1,k2,k3,k4,k5,kf,hh,hSq⟩))
 obtain ⟨HP1,HMB,HV4⟩ := ret6 hh.out (hSq.2.2.2.2.2.2.below HB3.out hBq (by omega)) hBq hv.out (fun b hb => hb.2)
 have HVE := Lib.hid (ValIn.later (R' := fun b => w.heap.size ≤ b) (fun _ _ _ => rfl) (fun b hb => hb.1) _ _ _ HV4.out)
 clear hA hT hS0 cW
 go_wp2_with fail
 (try simp only [Exit.inBlock,Exit.then])
 refine bodyPost_ret (v := .agg #[.int .i64 5,.bool false,.int .i64 0,.string ⟨#[]⟩,.slice a 3 c,.slice a' 3 c']) (results_cell_row rfl _ _ q 36 #[.int .i64 5,.bool false,.int .i64 0,.string ⟨#[]⟩,.slice a 3 c,.slice a' 3 c'] (0,0) _ (by rfl) HP1.out Tryz.underlying36 rfl (by kernel_rfl)) rfl ?_
 exact ⟨HMB.out,.slice a 3 c,.slice a' 3 c',rfl,HVE.out⟩
set_option maxHeartbeats 8000000 in
set_option maxRecDepth 100000 in
theorem fail_any (i : Val) (er : Int) (il ik : Value) (R : Nat → Prop) (w : World) (hi : ValIn w R i il ik) (jw : wt i ≤ 65536) :
  Calls Tryz.prog 22 #[arg i il ik,.int .i64 er] w fun e w' => Below w.heap.size w w' ∧ ∃ lv kv,e = .returned (arg (failV i (codeN er) (nameC (codeN er))) lv kv) ∧ ValIn w' (fun b => w.heap.size ≤ b) (failV i (codeN er) (nameC (codeN er))) lv kv := by
 have j0 : ValIn w (fun g => g < w.heap.size) i il ik := (ValIn.bound _ _ _ hi).later (fun _ _ _ => rfl) (fun _ h => h.2) _ _ _
 have j0' := hi
 obtain ⟨jso,jon,jn,jt,jl,jks⟩ := i
 obtain ⟨⟨j1,j2,rfl,_⟩,⟨j3,j4,rfl,_⟩⟩ := j0'
 simp only [arg,six',six,strCell]
 obtain ⟨jm1,hj1⟩ : ∃ m,jl.length = m := ⟨_,rfl⟩
 obtain ⟨jm2,hj2⟩ : ∃ m,jks.length = m := ⟨_,rfl⟩
 rw [hj1,hj2] at j0 ⊢
 clear hi
 have cC := fun W => codeof_any er W
 unfold failV
 generalize nameC (codeN er) = nn at cC ⊢
 generalize codeN er = cn at cC ⊢
 obtain ⟨h1,h2,h3,h4⟩ := two w (.cells #[.int .i64 jso,.bool jon,.int .i64 jn,.string ⟨jt.toArray⟩,.slice j1 jm1 j2,.slice j3 jm2 j4] 36) (.cells #[.int .i64 0,.bool false,.int .i64 0,.string ⟨#[]⟩,.slice none 0 0,.slice none 0 0] 36)
 obtain ⟨W2,hW2⟩ : ∃ W2,(w.alloc (.cells #[.int .i64 jso,.bool jon,.int .i64 jn,.string ⟨jt.toArray⟩,.slice j1 jm1 j2,.slice j3 jm2 j4] 36)).alloc (.cells #[.int .i64 0,.bool false,.int .i64 0,.string ⟨#[]⟩,.slice none 0 0,.slice none 0 0] 36) = W2 := ⟨_,rfl⟩
 rw [hW2] at h1 h2 h3 h4
 have hz2 : w.heap.size + 2 ≤ W2.heap.size := by omega
 have HX2 := Lib.hid h1
 have HQ2 := Lib.hid h2
 have HB2 := Lib.hid h3
 have CC := Lib.hid (cC W2)
 clear h1 h2 h3 h4 cC
 go_enter Tryz.func22,Tryz.ntmps22
 go_wp2_with fail
 refine CC.out.mono ?_
 rintro e w2 ⟨rfl,rfl⟩
 clear CC
 go_wp2_with fail
 refine (number_any cn w2).mono ?_
 rintro e wa ⟨rfl,hba⟩
 go_wp2_with fail
 refine (text_any ⟨nn.toArray⟩ wa).mono ?_
 rintro e wb ⟨rfl,hbb⟩
 have hbab : Below w2.heap.size w2 wb := hba.trans (hbb.mono hba.size)
 have hg := heap_alloc_new wb (.cells #[.string ⟨#[99,111,100,101]⟩,.int .i64 2,.bool false,.int .i64 cn,.string ⟨#[]⟩,.slice none 0 0,.slice none 0 0,.string ⟨#[109,101,115,115,97,103,101]⟩,.int .i64 3,.bool false,.int .i64 0,.string ⟨nn.toArray⟩,.slice none 0 0,.slice none 0 0] 78)
 have hP : PartsAt (wb.alloc (.cells #[.string ⟨#[99,111,100,101]⟩,.int .i64 2,.bool false,.int .i64 cn,.string ⟨#[]⟩,.slice none 0 0,.slice none 0 0,.string ⟨#[109,101,115,115,97,103,101]⟩,.int .i64 3,.bool false,.int .i64 0,.string ⟨nn.toArray⟩,.slice none 0 0,.slice none 0 0] 78)) (fun b => w2.heap.size ≤ b) [(bCode,numP cn),(bMsg,strP nn)] wb.heap.size 0 := ⟨_,cells_of_block hg,.slice none 0 0,.slice none 0 0,_,rfl,leaf_in _ _ _ _ _ _,.slice none 0 0,.slice none 0 0,[],rfl,leaf_in _ _ _ _ _ _,rfl⟩
 have cR := record_any [(bCode,numP cn),(bMsg,strP nn)] wb.heap.size 0 2 _ _ hP (by simp)
 simp only [List.length_cons,List.length_nil,Nat.zero_add,List.map_cons,List.map_nil] at cR
 have CR := Lib.hid cR
 have HBw := Lib.hid (hbab.trans (((Below.refl wb.heap.size wb).alloc (Nat.le_refl _) (.cells #[.string ⟨#[99,111,100,101]⟩,.int .i64 2,.bool false,.int .i64 cn,.string ⟨#[]⟩,.slice none 0 0,.slice none 0 0,.string ⟨#[109,101,115,115,97,103,101]⟩,.int .i64 3,.bool false,.int .i64 0,.string ⟨nn.toArray⟩,.slice none 0 0,.slice none 0 0] 78)).mono hbab.size))
 clear hg hP cR hba hbb hbab
 go_wp2_with fail
 refine CR.out.mono ?_
 rintro e wc ⟨hbc,fl',fk',rfl,hvc⟩
 clear CR
 generalize hF : recP [bCode,bMsg] [numP cn,strP nn] = F at hvc ⊢
 obtain ⟨fso,fon,fn,ft,fl,fks⟩ := F
 have HFq := Lib.hid hF
 clear hF
 have hvc' := hvc
 obtain ⟨⟨f1,f2,rfl,_⟩,⟨f3,f4,rfl,_⟩⟩ := hvc'
 simp only [arg,six',six,strCell]
 obtain ⟨fm1,hf1⟩ : ∃ m,fl.length = m := ⟨_,rfl⟩
 obtain ⟨fm2,hf2⟩ : ∃ m,fks.length = m := ⟨_,rfl⟩
 rw [hf1,hf2] at hvc ⊢
 obtain ⟨d,hd⟩ : ∃ d,wc.heap.size = d := ⟨_,rfl⟩
 go_upto_region 3 with fail
 obtain ⟨W3,hW3⟩ : ∃ W3,wc.alloc (.cells #[.int .i64 fso,.bool fon,.int .i64 fn,.string ⟨ft.toArray⟩,.slice f1 fm1 f2,.slice f3 fm2 f4] 36) = W3 := ⟨_,rfl⟩
 have hb3 : Below wc.heap.size wc W3 := by rw [← hW3]; exact (Below.refl _ _).alloc (Nat.le_refl _) _
 have hb23 : Below w2.heap.size w2 W3 := HBw.out.trans ((hbc.trans (hb3.mono hbc.size)).mono HBw.out.size)
 have hz3 := hb23.size
 have hszw := HBw.out.size
 have hszc := hbc.size
 have h1 : W3.heap[w.heap.size]? = some (.cells #[.int .i64 jso,.bool jon,.int .i64 jn,.string ⟨jt.toArray⟩,.slice j1 jm1 j2,.slice j3 jm2 j4] 36 (0,0)) := (hb23.block _ (by omega)).trans HX2.out
 have h2 : W3.heap[d]? = some (.cells #[.int .i64 fso,.bool fon,.int .i64 fn,.string ⟨ft.toArray⟩,.slice f1 fm1 f2,.slice f3 fm2 f4] 36 (0,0)) := by rw [← hW3,← hd]; exact heap_alloc_new _ _
 obtain ⟨q,hq⟩ : ∃ q,w.heap.size + 1 = q := ⟨_,rfl⟩
 have hq3 : W3.heap[q]? = some (.cells #[.int .i64 0,.bool false,.int .i64 0,.string ⟨#[]⟩,.slice none 0 0,.slice none 0 0] 36 (0,0)) := by rw [← hq]; exact (hb23.block _ (by omega)).trans HQ2.out
 have HB3 := Lib.hid (HB2.out.trans (hb23.mono HB2.out.size))
 have j3' : ValIn W3 (fun g => g < w.heap.size) (.mk jso jon jn jt jl jks) (.slice j1 jm1 j2) (.slice j3 jm2 j4) := ValIn.later (fun g hg _ => HB3.out.block g hg) (fun _ h => h) _ _ _ j0
 have f3' : ValIn W3 (fun b => w.heap.size ≤ b ∧ b ≠ q) (.mk fso fon fn ft fl fks) (.slice f1 fm1 f2) (.slice f3 fm2 f4) := ValIn.later (fun _ _ _ => rfl) (fun b hb => ⟨by rcases hb with h | h <;> omega,by rcases hb with h | h <;> omega⟩) _ _ _ (val_below hvc hb3)
 have hBq : w.heap.size ≤ q := by omega
 have hqd : d ≠ q := by omega
 (try rw [hW3])
 have p0 : W3.cell? ⟨w.heap.size,0,none⟩ = some (.int .i64 jso) := by unfold World.cell?; rw [h1]; rfl
 have p1 : W3.cell? ⟨w.heap.size,1,none⟩ = some (.bool jon) := by unfold World.cell?; rw [h1]; rfl
 have p2 : W3.cell? ⟨w.heap.size,2,none⟩ = some (.int .i64 jn) := by unfold World.cell?; rw [h1]; rfl
 have p3 : W3.cell? ⟨w.heap.size,3,none⟩ = some (.string ⟨jt.toArray⟩) := by unfold World.cell?; rw [h1]; rfl
 have p4 : W3.cell? ⟨w.heap.size,4,none⟩ = some (.slice j1 jm1 j2) := by unfold World.cell?; rw [h1]; rfl
 have p5 : W3.cell? ⟨w.heap.size,5,none⟩ = some (.slice j3 jm2 j4) := by unfold World.cell?; rw [h1]; rfl
 have p6 : W3.cell? ⟨d,0,none⟩ = some (.int .i64 fso) := by unfold World.cell?; rw [h2]; rfl
 have p7 : W3.cell? ⟨d,1,none⟩ = some (.bool fon) := by unfold World.cell?; rw [h2]; rfl
 have p8 : W3.cell? ⟨d,2,none⟩ = some (.int .i64 fn) := by unfold World.cell?; rw [h2]; rfl
 have p9 : W3.cell? ⟨d,3,none⟩ = some (.string ⟨ft.toArray⟩) := by unfold World.cell?; rw [h2]; rfl
 have p10 : W3.cell? ⟨d,4,none⟩ = some (.slice f1 fm1 f2) := by unfold World.cell?; rw [h2]; rfl
 have p11 : W3.cell? ⟨d,5,none⟩ = some (.slice f3 fm2 f4) := by unfold World.cell?; rw [h2]; rfl
 clear h1 h2 hb3 hb23 hbc hvc HBw HX2 HQ2 HB2 j0 hW3 hW2 hd
 have hc : ∀ W,Open q W3 W → (W.cell? ⟨w.heap.size,0,none⟩ = some (.int .i64 jso) ∧ W.cell? ⟨w.heap.size,1,none⟩ = some (.bool jon) ∧ W.cell? ⟨w.heap.size,2,none⟩ = some (.int .i64 jn) ∧ W.cell? ⟨w.heap.size,3,none⟩ = some (.string ⟨jt.toArray⟩) ∧ W.cell? ⟨w.heap.size,4,none⟩ = some (.slice j1 jm1 j2) ∧ W.cell? ⟨w.heap.size,5,none⟩ = some (.slice j3 jm2 j4) ∧ W.cell? ⟨d,0,none⟩ = some (.int .i64 fso) ∧ W.cell? ⟨d,1,none⟩ = some (.bool fon) ∧ W.cell? ⟨d,2,none⟩ = some (.int .i64 fn) ∧ W.cell? ⟨d,3,none⟩ = some (.string ⟨ft.toArray⟩) ∧ W.cell? ⟨d,4,none⟩ = some (.slice f1 fm1 f2) ∧ W.cell? ⟨d,5,none⟩ = some (.slice f3 fm2 f4) ∧ Open (q) W3 W) := fun W hO => ⟨hO.cell p0 (by show w.heap.size ≠ q; omega),hO.cell p1 (by show w.heap.size ≠ q; omega),hO.cell p2 (by show w.heap.size ≠ q; omega),hO.cell p3 (by show w.heap.size ≠ q; omega),hO.cell p4 (by show w.heap.size ≠ q; omega),hO.cell p5 (by show w.heap.size ≠ q; omega),hO.cell p6 (by show d ≠ q; omega),hO.cell p7 (by show d ≠ q; omega),hO.cell p8 (by show d ≠ q; omega),hO.cell p9 (by show d ≠ q; omega),hO.cell p10 (by show d ≠ q; omega),hO.cell p11 (by show d ≠ q; omega),hO⟩
 have hA : ∀ W ob,(W.cell? ⟨w.heap.size,0,none⟩ = some (.int .i64 jso) ∧ W.cell? ⟨w.heap.size,1,none⟩ = some (.bool jon) ∧ W.cell? ⟨w.heap.size,2,none⟩ = some (.int .i64 jn) ∧ W.cell? ⟨w.heap.size,3,none⟩ = some (.string ⟨jt.toArray⟩) ∧ W.cell? ⟨w.heap.size,4,none⟩ = some (.slice j1 jm1 j2) ∧ W.cell? ⟨w.heap.size,5,none⟩ = some (.slice j3 jm2 j4) ∧ W.cell? ⟨d,0,none⟩ = some (.int .i64 fso) ∧ W.cell? ⟨d,1,none⟩ = some (.bool fon) ∧ W.cell? ⟨d,2,none⟩ = some (.int .i64 fn) ∧ W.cell? ⟨d,3,none⟩ = some (.string ⟨ft.toArray⟩) ∧ W.cell? ⟨d,4,none⟩ = some (.slice f1 fm1 f2) ∧ W.cell? ⟨d,5,none⟩ = some (.slice f3 fm2 f4) ∧ Open (q) W3 W) → (((W.alloc ob)).cell? ⟨w.heap.size,0,none⟩ = some (.int .i64 jso) ∧ ((W.alloc ob)).cell? ⟨w.heap.size,1,none⟩ = some (.bool jon) ∧ ((W.alloc ob)).cell? ⟨w.heap.size,2,none⟩ = some (.int .i64 jn) ∧ ((W.alloc ob)).cell? ⟨w.heap.size,3,none⟩ = some (.string ⟨jt.toArray⟩) ∧ ((W.alloc ob)).cell? ⟨w.heap.size,4,none⟩ = some (.slice j1 jm1 j2) ∧ ((W.alloc ob)).cell? ⟨w.heap.size,5,none⟩ = some (.slice j3 jm2 j4) ∧ ((W.alloc ob)).cell? ⟨d,0,none⟩ = some (.int .i64 fso) ∧ ((W.alloc ob)).cell? ⟨d,1,none⟩ = some (.bool fon) ∧ ((W.alloc ob)).cell? ⟨d,2,none⟩ = some (.int .i64 fn) ∧ ((W.alloc ob)).cell? ⟨d,3,none⟩ = some (.string ⟨ft.toArray⟩) ∧ ((W.alloc ob)).cell? ⟨d,4,none⟩ = some (.slice f1 fm1 f2) ∧ ((W.alloc ob)).cell? ⟨d,5,none⟩ = some (.slice f3 fm2 f4) ∧ Open (q) W3 ((W.alloc ob))) := fun W ob hS => hc _ (hS.2.2.2.2.2.2.2.2.2.2.2.2.alloc ob)
 have hT : ∀ W i v,(W.cell? ⟨w.heap.size,0,none⟩ = some (.int .i64 jso) ∧ W.cell? ⟨w.heap.size,1,none⟩ = some (.bool jon) ∧ W.cell? ⟨w.heap.size,2,none⟩ = some (.int .i64 jn) ∧ W.cell? ⟨w.heap.size,3,none⟩ = some (.string ⟨jt.toArray⟩) ∧ W.cell? ⟨w.heap.size,4,none⟩ = some (.slice j1 jm1 j2) ∧ W.cell? ⟨w.heap.size,5,none⟩ = some (.slice j3 jm2 j4) ∧ W.cell? ⟨d,0,none⟩ = some (.int .i64 fso) ∧ W.cell? ⟨d,1,none⟩ = some (.bool fon) ∧ W.cell? ⟨d,2,none⟩ = some (.int .i64 fn) ∧ W.cell? ⟨d,3,none⟩ = some (.string ⟨ft.toArray⟩) ∧ W.cell? ⟨d,4,none⟩ = some (.slice f1 fm1 f2) ∧ W.cell? ⟨d,5,none⟩ = some (.slice f3 fm2 f4) ∧ Open (q) W3 W) → (((W.setCell ⟨q,i,none⟩ v)).cell? ⟨w.heap.size,0,none⟩ = some (.int .i64 jso) ∧ ((W.setCell ⟨q,i,none⟩ v)).cell? ⟨w.heap.size,1,none⟩ = some (.bool jon) ∧ ((W.setCell ⟨q,i,none⟩ v)).cell? ⟨w.heap.size,2,none⟩ = some (.int .i64 jn) ∧ ((W.setCell ⟨q,i,none⟩ v)).cell? ⟨w.heap.size,3,none⟩ = some (.string ⟨jt.toArray⟩) ∧ ((W.setCell ⟨q,i,none⟩ v)).cell? ⟨w.heap.size,4,none⟩ = some (.slice j1 jm1 j2) ∧ ((W.setCell ⟨q,i,none⟩ v)).cell? ⟨w.heap.size,5,none⟩ = some (.slice j3 jm2 j4) ∧ ((W.setCell ⟨q,i,none⟩ v)).cell? ⟨d,0,none⟩ = some (.int .i64 fso) ∧ ((W.setCell ⟨q,i,none⟩ v)).cell? ⟨d,1,none⟩ = some (.bool fon) ∧ ((W.setCell ⟨q,i,none⟩ v)).cell? ⟨d,2,none⟩ = some (.int .i64 fn) ∧ ((W.setCell ⟨q,i,none⟩ v)).cell? ⟨d,3,none⟩ = some (.string ⟨ft.toArray⟩) ∧ ((W.setCell ⟨q,i,none⟩ v)).cell? ⟨d,4,none⟩ = some (.slice f1 fm1 f2) ∧ ((W.setCell ⟨q,i,none⟩ v)).cell? ⟨d,5,none⟩ = some (.slice f3 fm2 f4) ∧ Open (q) W3 ((W.setCell ⟨q,i,none⟩ v))) := fun W i v hS => hc _ (hS.2.2.2.2.2.2.2.2.2.2.2.2.set i v)
 have hS0 : (W3.drew.cell? ⟨w.heap.size,0,none⟩ = some (.int .i64 jso) ∧ W3.drew.cell? ⟨w.heap.size,1,none⟩ = some (.bool jon) ∧ W3.drew.cell? ⟨w.heap.size,2,none⟩ = some (.int .i64 jn) ∧ W3.drew.cell? ⟨w.heap.size,3,none⟩ = some (.string ⟨jt.toArray⟩) ∧ W3.drew.cell? ⟨w.heap.size,4,none⟩ = some (.slice j1 jm1 j2) ∧ W3.drew.cell? ⟨w.heap.size,5,none⟩ = some (.slice j3 jm2 j4) ∧ W3.drew.cell? ⟨d,0,none⟩ = some (.int .i64 fso) ∧ W3.drew.cell? ⟨d,1,none⟩ = some (.bool fon) ∧ W3.drew.cell? ⟨d,2,none⟩ = some (.int .i64 fn) ∧ W3.drew.cell? ⟨d,3,none⟩ = some (.string ⟨ft.toArray⟩) ∧ W3.drew.cell? ⟨d,4,none⟩ = some (.slice f1 fm1 f2) ∧ W3.drew.cell? ⟨d,5,none⟩ = some (.slice f3 fm2 f4) ∧ Open (q) W3 W3.drew) := hc _ (Open.start hq3).drew
 have c0 : ∀ W,(W.cell? ⟨w.heap.size,0,none⟩ = some (.int .i64 jso) ∧ W.cell? ⟨w.heap.size,1,none⟩ = some (.bool jon) ∧ W.cell? ⟨w.heap.size,2,none⟩ = some (.int .i64 jn) ∧ W.cell? ⟨w.heap.size,3,none⟩ = some (.string ⟨jt.toArray⟩) ∧ W.cell? ⟨w.heap.size,4,none⟩ = some (.slice j1 jm1 j2) ∧ W.cell? ⟨w.heap.size,5,none⟩ = some (.slice j3 jm2 j4) ∧ W.cell? ⟨d,0,none⟩ = some (.int .i64 fso) ∧ W.cell? ⟨d,1,none⟩ = some (.bool fon) ∧ W.cell? ⟨d,2,none⟩ = some (.int .i64 fn) ∧ W.cell? ⟨d,3,none⟩ = some (.string ⟨ft.toArray⟩) ∧ W.cell? ⟨d,4,none⟩ = some (.slice f1 fm1 f2) ∧ W.cell? ⟨d,5,none⟩ = some (.slice f3 fm2 f4) ∧ Open (q) W3 W) → Calls Tryz.prog 30 #[.agg #[.int .i64 jso,.bool jon,.int .i64 jn,.string ⟨jt.toArray⟩,.slice j1 jm1 j2,.slice j3 jm2 j4]] W fun e w' => ∃ b1 b2 b3 b4,e = .returned (.agg #[.int .i64 jso,.bool jon,.int .i64 jn,.string ⟨jt.toArray⟩,.slice b1 jm1 b2,.slice b3 jm2 b4]) ∧ Hid (ValIn w' (fun b => w.heap.size ≤ b ∧ b ≠ q) (.mk jso jon jn jt jl jks) (.slice b1 jm1 b2) (.slice b3 jm2 b4)) ∧ Hid (Below W.heap.size W w') ∧ (w'.cell? ⟨w.heap.size,0,none⟩ = some (.int .i64 jso) ∧ w'.cell? ⟨w.heap.size,1,none⟩ = some (.bool jon) ∧ w'.cell? ⟨w.heap.size,2,none⟩ = some (.int .i64 jn) ∧ w'.cell? ⟨w.heap.size,3,none⟩ = some (.string ⟨jt.toArray⟩) ∧ w'.cell? ⟨w.heap.size,4,none⟩ = some (.slice j1 jm1 j2) ∧ w'.cell? ⟨w.heap.size,5,none⟩ = some (.slice j3 jm2 j4) ∧ w'.cell? ⟨d,0,none⟩ = some (.int .i64 fso) ∧ w'.cell? ⟨d,1,none⟩ = some (.bool fon) ∧ w'.cell? ⟨d,2,none⟩ = some (.int .i64 fn) ∧ w'.cell? ⟨d,3,none⟩ = some (.string ⟨ft.toArray⟩) ∧ w'.cell? ⟨d,4,none⟩ = some (.slice f1 fm1 f2) ∧ w'.cell? ⟨d,5,none⟩ = some (.slice f3 fm2 f4) ∧ Open (q) W3 w') := fun W hS => by
  refine (rcopy_m hj1 hj2 (ValIn.later (R' := fun g => g < w.heap.size) (fun g hg _ => hS.2.2.2.2.2.2.2.2.2.2.2.2.1.block g (by omega) (by omega)) (fun _ h => h) _ _ _ j3') jw).mono ?_
  rintro e w' ⟨b1,b2,b3,b4,rfl,h1,h2⟩
  have hsz := hS.2.2.2.2.2.2.2.2.2.2.2.2.size
  have hlt := hS.2.2.2.2.2.2.2.2.2.2.2.2.lt
  exact ⟨b1,b2,b3,b4,rfl,Lib.hid (ValIn.later (fun _ _ _ => rfl) (fun b hb => ⟨by omega,by omega⟩) _ _ _ h1.out),h2,hc _ (hS.2.2.2.2.2.2.2.2.2.2.2.2.later h2.out)⟩
 have cW : ∀ W (g : Nat) (u1 : Option Addr) (u3 : Option Addr) (u2 : Nat) (u4 : Nat),(W.cell? ⟨w.heap.size,0,none⟩ = some (.int .i64 jso) ∧ W.cell? ⟨w.heap.size,1,none⟩ = some (.bool jon) ∧ W.cell? ⟨w.heap.size,2,none⟩ = some (.int .i64 jn) ∧ W.cell? ⟨w.heap.size,3,none⟩ = some (.string ⟨jt.toArray⟩) ∧ W.cell? ⟨w.heap.size,4,none⟩ = some (.slice j1 jm1 j2) ∧ W.cell? ⟨w.heap.size,5,none⟩ = some (.slice j3 jm2 j4) ∧ W.cell? ⟨d,0,none⟩ = some (.int .i64 fso) ∧ W.cell? ⟨d,1,none⟩ = some (.bool fon) ∧ W.cell? ⟨d,2,none⟩ = some (.int .i64 fn) ∧ W.cell? ⟨d,3,none⟩ = some (.string ⟨ft.toArray⟩) ∧ W.cell? ⟨d,4,none⟩ = some (.slice f1 fm1 f2) ∧ W.cell? ⟨d,5,none⟩ = some (.slice f3 fm2 f4) ∧ Open (q) W3 W) → W.heap[g]? = some (.cells #[.string ⟨#[105,100]⟩,.int .i64 jso,.bool jon,.int .i64 jn,.string ⟨jt.toArray⟩,.slice u1 jm1 u2,.slice u3 jm2 u4,.string ⟨#[101,114,114,111,114]⟩,.int .i64 fso,.bool fon,.int .i64 fn,.string ⟨ft.toArray⟩,.slice f1 fm1 f2,.slice f3 fm2 f4] 78 (0,0)) → ValIn W (fun b => w.heap.size ≤ b ∧ b ≠ q) (.mk jso jon jn jt jl jks) (.slice u1 jm1 u2) (.slice u3 jm2 u4) → ValIn W (fun b => w.heap.size ≤ b ∧ b ≠ q) (.mk fso fon fn ft fl fks) (.slice f1 fm1 f2) (.slice f3 fm2 f4) → Calls Tryz.prog 33 #[.slice (some ⟨g,0,none⟩) 2 2] W fun e w' => ∃ a c a' c' y0 y1 y2 y3 y4 y5,e = .returned (.agg #[.int .i64 5,.bool false,.int .i64 0,.string ⟨#[]⟩,.slice a 3 c,.slice a' 3 c']) ∧ Hid (ValIn w' (fun b => w.heap.size ≤ b ∧ b ≠ q) (recP [bJsonrpc,bId,bError] [strP bTwo,(.mk jso jon jn jt jl jks),(.mk fso fon fn ft fl fks)]) (.slice a 3 c) (.slice a' 3 c')) ∧ w'.cell? ⟨q,0,none⟩ = some y0 ∧ w'.cell? ⟨q,1,none⟩ = some y1 ∧ w'.cell? ⟨q,2,none⟩ = some y2 ∧ w'.cell? ⟨q,3,none⟩ = some y3 ∧ w'.cell? ⟨q,4,none⟩ = some y4 ∧ w'.cell? ⟨q,5,none⟩ = some y5 ∧ (∀ i,w'.frozen? ⟨q,i,none⟩ = false) ∧ Hid (w'.heap[q]? = some (.cells #[y0,y1,y2,y3,y4,y5] 36 (0,0))) ∧ (w'.cell? ⟨w.heap.size,0,none⟩ = some (.int .i64 jso) ∧ w'.cell? ⟨w.heap.size,1,none⟩ = some (.bool jon) ∧ w'.cell? ⟨w.heap.size,2,none⟩ = some (.int .i64 jn) ∧ w'.cell? ⟨w.heap.size,3,none⟩ = some (.string ⟨jt.toArray⟩) ∧ w'.cell? ⟨w.heap.size,4,none⟩ = some (.slice j1 jm1 j2) ∧ w'.cell? ⟨w.heap.size,5,none⟩ = some (.slice j3 jm2 j4) ∧ w'.cell? ⟨d,0,none⟩ = some (.int .i64 fso) ∧ w'.cell? ⟨d,1,none⟩ = some (.bool fon) ∧ w'.cell? ⟨d,2,none⟩ = some (.int .i64 fn) ∧ w'.cell? ⟨d,3,none⟩ = some (.string ⟨ft.toArray⟩) ∧ w'.cell? ⟨d,4,none⟩ = some (.slice f1 fm1 f2) ∧ w'.cell? ⟨d,5,none⟩ = some (.slice f3 fm2 f4) ∧ Open (q) W3 w') := fun W g u1 u3 u2 u4 hS hg pv0 pv1 => by
  have hP : PartsAt W (fun b => w.heap.size ≤ b ∧ b ≠ q) [(bId,(.mk jso jon jn jt jl jks)),(bError,(.mk fso fon fn ft fl fks))] g 0 := ⟨_,cells_of_block hg,.slice u1 jm1 u2,.slice u3 jm2 u4,_,rfl,pv0,.slice f1 fm1 f2,.slice f3 fm2 f4,[],rfl,pv1,rfl⟩
  have hm := written_any [(bId,(.mk jso jon jn jt jl jks)),(bError,(.mk fso fon fn ft fl fks))] g 0 2 _ W hP (by simp) (by simp)
  simp only [List.length_cons,List.length_nil,Nat.zero_add,List.map_cons,List.map_nil] at hm
  refine hm.mono ?_
  rintro e w' ⟨hb,lv,kv,rfl,hv⟩
  have hv' := hv
  obtain ⟨⟨a,c,rfl,_⟩,⟨a',c',rfl,_⟩⟩ := hv'
  have hO := hS.2.2.2.2.2.2.2.2.2.2.2.2.later hb
  have hlt := hS.2.2.2.2.2.2.2.2.2.2.2.2.lt
  obtain ⟨y0,y1,y2,y3,y4,y5,k0,k1,k2,k3,k4,k5,kf,hh⟩ := hO.cells
  exact ⟨a,c,a',c',y0,y1,y2,y3,y4,y5,rfl,Lib.hid (ValIn.later (fun _ _ _ => rfl) (fun b hb2 => by have := hS.2.2.2.2.2.2.2.2.2.2.2.2.size; rcases hb2 with h | h <;> omega) _ _ _ hv),k0,k1,k2,k3,k4,k5,kf,hh,hc _ hO⟩
 (try rw [hq])
 clear hq
 go_region_held3 (fun W => (W.cell? ⟨w.heap.size,0,none⟩ = some (.int .i64 jso) ∧ W.cell? ⟨w.heap.size,1,none⟩ = some (.bool jon) ∧ W.cell? ⟨w.heap.size,2,none⟩ = some (.int .i64 jn) ∧ W.cell? ⟨w.heap.size,3,none⟩ = some (.string ⟨jt.toArray⟩) ∧ W.cell? ⟨w.heap.size,4,none⟩ = some (.slice j1 jm1 j2) ∧ W.cell? ⟨w.heap.size,5,none⟩ = some (.slice j3 jm2 j4) ∧ W.cell? ⟨d,0,none⟩ = some (.int .i64 fso) ∧ W.cell? ⟨d,1,none⟩ = some (.bool fon) ∧ W.cell? ⟨d,2,none⟩ = some (.int .i64 fn) ∧ W.cell? ⟨d,3,none⟩ = some (.string ⟨ft.toArray⟩) ∧ W.cell? ⟨d,4,none⟩ = some (.slice f1 fm1 f2) ∧ W.cell? ⟨d,5,none⟩ = some (.slice f3 fm2 f4) ∧ Open (q) W3 W)) (with_reducible (repeat (first | assumption | refine hA _ _ ?_ | refine hT _ _ _ ?_))) (first
  | (go_at_call 30; (with_reducible refine (c0 _ ?_).mono ?_); (with_reducible (repeat (first | assumption | refine hA _ _ ?_))); rintro e wu ⟨u1,u2,u3,u4,rfl,HVu,HBu,hSu⟩)
  | (go_at_call 33; (with_reducible refine (cW _ _ u1 u3 u2 u4 ?_ ?_ ?_ ?_).mono ?_); (with_reducible (repeat (first | assumption | refine hA _ _ ?_))); (exact heap_alloc_new _ _); (exact val_below HVu.out ((Below.refl _ _).alloc (Nat.le_refl _) _)); (exact val_below (ValIn.later (fun b hb hlt => hSu.2.2.2.2.2.2.2.2.2.2.2.2.1.block b hlt hb.2) (fun _ h => h) _ _ _ f3') ((Below.refl _ _).alloc (Nat.le_refl _) _)); rintro e wq ⟨a,c,a',c',y0,y1,y2,y3,y4,y5,rfl,hv,k0,k1,k2,k3,k4,k5,kf,hh,hSq⟩))
 obtain ⟨HP1,HMB,HV4⟩ := ret6 hh.out (hSq.2.2.2.2.2.2.2.2.2.2.2.2.below HB3.out hBq (by omega)) hBq hv.out (fun b hb => hb.2)
 have HVE := Lib.hid (ValIn.later (R' := fun b => w.heap.size ≤ b) (fun _ _ _ => rfl) (fun b hb => hb.1) _ _ _ HV4.out)
 clear hA hT hS0 cW
 go_wp2_with fail
 (try simp only [Exit.inBlock,Exit.then])
 refine bodyPost_ret (v := .agg #[.int .i64 5,.bool false,.int .i64 0,.string ⟨#[]⟩,.slice a 3 c,.slice a' 3 c']) (results_cell_row rfl _ _ q 36 #[.int .i64 5,.bool false,.int .i64 0,.string ⟨#[]⟩,.slice a 3 c,.slice a' 3 c'] (0,0) _ (by rfl) HP1.out Tryz.underlying36 rfl (by kernel_rfl)) rfl ?_
 rw [HFq.out]
 exact ⟨HMB.out,.slice a 3 c,.slice a' 3 c',rfl,HVE.out⟩
end Go.Proofs.YtcfdalbdndamoaaGreatDoor.M
