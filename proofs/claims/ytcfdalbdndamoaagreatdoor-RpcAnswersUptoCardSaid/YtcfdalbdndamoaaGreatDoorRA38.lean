/- What the claim needs of the texts MAnsL. -/
import Derived.Test.YtcfdalbdndamoaaGreatDoorRA37
import Derived.Deep.DeepCutAuto
namespace Go.Proofs.YtcfdalbdndamoaaGreatDoor.M
open Go.RowKit
open Go.Lib Go.Proofs.YtcfdalbdndamoaaGreatDoor.V
theorem read_42 {v : Val} (h : (readM v).2 = 42) : (readW v).2 = 42 := by
 unfold readW; split
 ·exact h
 ·rfl
theorem note_42 (p : Val) : (readW (noteV bPublish p)).2 = 42 ∨ (readW (noteV bPublish p)).2 = 43 := by
 unfold readW; split
 ·exact note_none p
 ·exact .inl rfl
theorem name_len (n : Int) : (nameC n).length ≤ 30 := by
 unfold nameC
 repeat' split
 all_goals decide
theorem wt_reply {i r : Val} (hi : wt i ≤ 400) (hr : wt r ≤ 400) : wt (replyV i r) ≤ 65536 := by
 unfold replyV
 rw [wt_rec]
 have e : (([bJsonrpc,bId,bResult] : List (List UInt8)).map fun k => k.length + 1).sum = 18 := by decide
 rw [e]
 simp only [wtL,wt_str]
 have : bTwo.length = 3 := by decide
 omega
theorem wt_note {p : Val} (hp : wt p ≤ 400) : wt (noteV bPublish p) ≤ 65536 := by
 unfold noteV
 rw [wt_rec]
 have e : (([bJsonrpc,bMethod,bParams] : List (List UInt8)).map fun k => k.length + 1).sum = 22 := by decide
 rw [e]
 simp only [wtL,wt_str]
 have : bTwo.length = 3 := by decide
 have : bPublish.length ≤ 40 := by decide
 omega
theorem wt_fail {i : Val} (n : Int) (hi : wt i ≤ 400) : wt (failV i n (nameC n)) ≤ 65536 := by
 unfold failV
 rw [wt_rec]
 have e : (([bJsonrpc,bId,bError] : List (List UInt8)).map fun k => k.length + 1).sum = 17 := by decide
 rw [e]
 simp only [wtL,wt_str,wt_rec,wt_num]
 have e2 : (([bCode,bMsg] : List (List UInt8)).map fun k => k.length + 1).sum = 13 := by decide
 rw [e2]
 have := name_len n
 have : bTwo.length = 3 := by decide
 omega
theorem kept2 {wa wb : World} {K : Obj} (hb : Below (wa.alloc K).heap.size (wa.alloc K) wb) : wb.heap[wa.heap.size]? = some K := (hb.block _ (by simp)).trans (heap_alloc_new _ _)
theorem kept3 {W wa wb : World} {K : Obj} (ha : Below (W.alloc K).drew.heap.size (W.alloc K).drew wa) (hb : Below wa.heap.size wa wb) : wb.heap[W.heap.size]? = some K := by
 have hz := ha.size
 have e : (W.alloc K).drew.heap.size = W.heap.size + 1 := by show (W.alloc K).heap.size = _; simp
 rw [e] at hz
 exact (hb.block _ (by omega)).trans ((ha.block _ (by omega)).trans (heap_alloc_new _ _))
theorem valIn_true {W : World} {R : Nat → Prop} {v : Val} {lv kv : Value} (h : ValIn W R v lv kv) : ValIn W (fun _ => True) v lv kv := ValIn.later (fun _ _ _ => rfl) (fun _ _ => trivial) _ _ _ h
set_option maxRecDepth 20000 in
set_option maxHeartbeats 4000000 in
theorem answers_long (i r : Val) (er : Int) (il ik rl rk : Value) (w : World) (hi : ValIn w (fun _ => True) i il ik) (hr : ValIn w (fun _ => True) r rl rk) (hwi : wt i ≤ 1099511627776) (hwr : wt r ≤ 1099511627776)
  (hbig : 400 < sizeV i ∨ 400 < sizeV r) (hE : EnvW w) (hM : MTab w) :
  Calls Tryz.prog 5 #[arg i il ik,arg r rl rk,.int .i64 er] w fun e w' => e = .returned (.bool true) ∧ Below w.heap.size w w' := by
 have cV := fun W (hb : Below w.heap.size w W) => size_v i il ik _ W (val_below hi hb) hwi
 have cU := fun W (hb : Below w.heap.size w W) => size_v r rl rk _ W (val_below hr hb) hwr
 have cA := fun W (hb : Below w.heap.size w W) => alive_any W (hE.later hb) (hM.later hb)
 have hzv := sizeV_le i
 have hzu := sizeV_le r
 have j0' := hi
 obtain ⟨jso,jon,jn,jt,jl,jks⟩ := i
 obtain ⟨⟨j1,j2,rfl,_⟩,⟨j3,j4,rfl,_⟩⟩ := j0'
 have s0' := hr
 obtain ⟨sso,son,sn,st,sl,sks⟩ := r
 obtain ⟨⟨s1,s2,rfl,_⟩,⟨s3,s4,rfl,_⟩⟩ := s0'
 generalize sizeV (.mk jso jon jn jt jl jks) = z1 at *
 generalize sizeV (.mk sso son sn st sl sks) = z2 at *
 have hz1 : z1 ≤ 1099511627776 := by omega
 have hz2 : z2 ≤ 1099511627776 := by omega
 simp only [arg,six',six,strCell] at cV cU ⊢
 generalize jl.length = jm1 at *
 generalize jks.length = jm2 at *
 generalize sl.length = sm1 at *
 generalize sks.length = sm2 at *
 have CV := Lib.hid cV
 have CU := Lib.hid cU
 have CA := Lib.hid cA
 clear hi hr hE hM hwi hwr hzv hzu cV cU cA
 go_enter Tryz.func5,Tryz.ntmps5
 go_wp2_with fail
 obtain ⟨h1,h2,hb0,hz⟩ := two w (.cells #[.int .i64 jso,.bool jon,.int .i64 jn,.string ⟨jt.toArray⟩,.slice j1 jm1 j2,.slice j3 jm2 j4] 26) (.cells #[.int .i64 sso,.bool son,.int .i64 sn,.string ⟨st.toArray⟩,.slice s1 sm1 s2,.slice s3 sm2 s4] 26)
 generalize (w.alloc (.cells #[.int .i64 jso,.bool jon,.int .i64 jn,.string ⟨jt.toArray⟩,.slice j1 jm1 j2,.slice j3 jm2 j4] 26)).alloc (.cells #[.int .i64 sso,.bool son,.int .i64 sn,.string ⟨st.toArray⟩,.slice s1 sm1 s2,.slice s3 sm2 s4] 26) = w1 at *
 refine (CV.out _ hb0).mono ?_
 rintro e w2 ⟨rfl,hb2⟩
 have hbs2 : Below w.heap.size w w2 := hb0.trans (hb2.mono (by omega))
 obtain ⟨⟨k0,k1,k2,k3,k4,k5⟩,kf⟩ := cells_six ((hb2.block _ (by omega)).trans h2)
 have HB2 := Lib.hid hbs2
 clear hb0 hb2 h1 h2 hbs2
 by_cases hg : 400 < z1
 ·go_wp2_with fail
  refine (CA.out _ HB2.out).mono ?_
  rintro e w3 ⟨rfl,hb3⟩
  have HB3 := Lib.hid (HB2.out.trans (hb3.mono HB2.out.size))
  clear hb3
  go_wp2_with fail
  go_ret
  exact ⟨rfl,HB3.out⟩
 ·have hg2 : 400 < z2 := by omega
  go_wp2_with fail
  refine (CU.out _ HB2.out).mono ?_
  rintro e w3 ⟨rfl,hb3⟩
  have HB3 := Lib.hid (HB2.out.trans (hb3.mono HB2.out.size))
  clear hb3
  go_wp2_with fail
  refine (CA.out _ HB3.out).mono ?_
  rintro e w4 ⟨rfl,hb4⟩
  have HB4 := Lib.hid (HB3.out.trans (hb4.mono HB3.out.size))
  clear hb4
  go_wp2_with fail
  go_ret
  exact ⟨rfl,HB4.out⟩
set_option maxRecDepth 20000 in
set_option maxHeartbeats 40000000 in
theorem answers_short (i r : Val) (er : Int) (il ik rl rk : Value) (w : World) (hi : ValIn w (fun _ => True) i il ik) (hr : ValIn w (fun _ => True) r rl rk) (hzi : sizeV i ≤ 400) (hzr : sizeV r ≤ 400) (hE : EnvW w) (hM : MTab w) :
  Calls Tryz.prog 5 #[arg i il ik,arg r rl rk,.int .i64 er] w fun e w' => e = .returned (.bool true) ∧ Below w.heap.size w w' := by
 have hwi : wt i ≤ 400 := by rw [wt_of_size i hzi]; exact hzi
 have hwr : wt r ≤ 400 := by rw [wt_of_size r hzr]; exact hzr
 have cV := fun W (hb : Below w.heap.size w W) => size_v i il ik _ W (val_below hi hb) (by omega)
 have cU := fun W (hb : Below w.heap.size w W) => size_v r rl rk _ W (val_below hr hb) (by omega)
 have CjO := fun W (hb : Below w.heap.size w W) => of_v2 hi (by omega) W hb
 have CsO := fun W (hb : Below w.heap.size w W) => of_v2 hr (by omega) W hb
 have wx := wt_reply hwi hwr
 have wy := wt_fail (codeN er) hwi
 have wn := wt_note hwr
 have j0' := hi
 obtain ⟨jso,jon,jn,jt,jl,jks⟩ := i
 obtain ⟨⟨j1,j2,rfl,_⟩,⟨j3,j4,rfl,_⟩⟩ := j0'
 have s0' := hr
 obtain ⟨sso,son,sn,st,sl,sks⟩ := r
 obtain ⟨⟨s1,s2,rfl,_⟩,⟨s3,s4,rfl,_⟩⟩ := s0'
 generalize sizeV (.mk jso jon jn jt jl jks) = z1 at *
 generalize sizeV (.mk sso son sn st sl sks) = z2 at *
 have hg1 : ¬ 400 < z1 := by omega
 have hg2 : ¬ 400 < z2 := by omega
 have HE := Lib.hid hE
 have HM := Lib.hid hM
 simp only [arg,six',six,strCell] at cV cU CjO CsO ⊢
 obtain ⟨jm1,hj1⟩ : ∃ m,jl.length = m := ⟨_,rfl⟩
 obtain ⟨jm2,hj2⟩ : ∃ m,jks.length = m := ⟨_,rfl⟩
 obtain ⟨sm1,hs1⟩ : ∃ m,sl.length = m := ⟨_,rfl⟩
 obtain ⟨sm2,hs2⟩ : ∃ m,sks.length = m := ⟨_,rfl⟩
 rw [hj1,hj2] at hi cV CjO
 rw [hs1,hs2] at hr cU CsO
 rw [hj1,hj2,hs1,hs2]
 have HI := Lib.hid hi
 have HR := Lib.hid hr
 replace CjO := Lib.hid CjO
 replace CsO := Lib.hid CsO
 obtain ⟨h1,h2,h3,h4⟩ := two w (.cells #[.int .i64 jso,.bool jon,.int .i64 jn,.string ⟨jt.toArray⟩,.slice j1 jm1 j2,.slice j3 jm2 j4] 26) (.cells #[.int .i64 sso,.bool son,.int .i64 sn,.string ⟨st.toArray⟩,.slice s1 sm1 s2,.slice s3 sm2 s4] 26)
 obtain ⟨W0,hW0⟩ : ∃ W0,(w.alloc (.cells #[.int .i64 jso,.bool jon,.int .i64 jn,.string ⟨jt.toArray⟩,.slice j1 jm1 j2,.slice j3 jm2 j4] 26)).alloc (.cells #[.int .i64 sso,.bool son,.int .i64 sn,.string ⟨st.toArray⟩,.slice s1 sm1 s2,.slice s3 sm2 s4] 26) = W0 := ⟨_,rfl⟩
 rw [hW0] at h1 h2 h3 h4
 have hz0 : w.heap.size + 2 ≤ W0.heap.size := by omega
 have HJ := Lib.hid h1
 have HSb := Lib.hid h2
 have HB0 := Lib.hid h3
 have CV := Lib.hid cV
 have CU := Lib.hid cU
 clear hi hr hE hM cV cU h1 h2 h3 h4 hzi hzr
 have p0 : W0.cell? ⟨w.heap.size,0,none⟩ = some (.int .i64 jso) := by unfold World.cell?; rw [HJ.out]; rfl
 have p1 : W0.cell? ⟨w.heap.size,1,none⟩ = some (.bool jon) := by unfold World.cell?; rw [HJ.out]; rfl
 have p2 : W0.cell? ⟨w.heap.size,2,none⟩ = some (.int .i64 jn) := by unfold World.cell?; rw [HJ.out]; rfl
 have p3 : W0.cell? ⟨w.heap.size,3,none⟩ = some (.string ⟨jt.toArray⟩) := by unfold World.cell?; rw [HJ.out]; rfl
 have p4 : W0.cell? ⟨w.heap.size,4,none⟩ = some (.slice j1 jm1 j2) := by unfold World.cell?; rw [HJ.out]; rfl
 have p5 : W0.cell? ⟨w.heap.size,5,none⟩ = some (.slice j3 jm2 j4) := by unfold World.cell?; rw [HJ.out]; rfl
 go_enter Tryz.func5,Tryz.ntmps5
 go_wp2_with fail
 refine (CV.out _ HB0.out).mono ?_
 rintro e w1 ⟨rfl,hb1⟩
 have hz1 := hb1.size
 have HB1 := Lib.hid (HB0.out.trans (hb1.mono HB0.out.size))
 have HJ1 := Lib.hid ((hb1.block w.heap.size (by omega)).trans HJ.out)
 have HS1 := Lib.hid ((hb1.block (w.heap.size + 1) (by omega)).trans HSb.out)
 clear CV hb1 p0 p1 p2 p3 p4 p5 HJ HSb HB0 hW0
 have p0 : w1.cell? ⟨w.heap.size + 1,0,none⟩ = some (.int .i64 sso) := by unfold World.cell?; rw [HS1.out]; rfl
 have p1 : w1.cell? ⟨w.heap.size + 1,1,none⟩ = some (.bool son) := by unfold World.cell?; rw [HS1.out]; rfl
 have p2 : w1.cell? ⟨w.heap.size + 1,2,none⟩ = some (.int .i64 sn) := by unfold World.cell?; rw [HS1.out]; rfl
 have p3 : w1.cell? ⟨w.heap.size + 1,3,none⟩ = some (.string ⟨st.toArray⟩) := by unfold World.cell?; rw [HS1.out]; rfl
 have p4 : w1.cell? ⟨w.heap.size + 1,4,none⟩ = some (.slice s1 sm1 s2) := by unfold World.cell?; rw [HS1.out]; rfl
 have p5 : w1.cell? ⟨w.heap.size + 1,5,none⟩ = some (.slice s3 sm2 s4) := by unfold World.cell?; rw [HS1.out]; rfl
 go_wp2_with fail
 refine (CU.out _ HB1.out).mono ?_
 rintro e W2 ⟨rfl,hb2⟩
 have hz2 := hb2.size
 have HB2 := Lib.hid (HB1.out.trans (hb2.mono HB1.out.size))
 have HJ2 := Lib.hid ((hb2.block w.heap.size (by omega)).trans HJ1.out)
 have HS2 := Lib.hid ((hb2.block (w.heap.size + 1) (by omega)).trans HS1.out)
 clear CU hb2 p0 p1 p2 p3 p4 p5 HJ1 HS1 HB1
 have hz02 : w.heap.size + 2 ≤ W2.heap.size := by omega
 have p0 : W2.cell? ⟨w.heap.size,0,none⟩ = some (.int .i64 jso) := by unfold World.cell?; rw [HJ2.out]; rfl
 have p1 : W2.cell? ⟨w.heap.size,1,none⟩ = some (.bool jon) := by unfold World.cell?; rw [HJ2.out]; rfl
 have p2 : W2.cell? ⟨w.heap.size,2,none⟩ = some (.int .i64 jn) := by unfold World.cell?; rw [HJ2.out]; rfl
 have p3 : W2.cell? ⟨w.heap.size,3,none⟩ = some (.string ⟨jt.toArray⟩) := by unfold World.cell?; rw [HJ2.out]; rfl
 have p4 : W2.cell? ⟨w.heap.size,4,none⟩ = some (.slice j1 jm1 j2) := by unfold World.cell?; rw [HJ2.out]; rfl
 have p5 : W2.cell? ⟨w.heap.size,5,none⟩ = some (.slice j3 jm2 j4) := by unfold World.cell?; rw [HJ2.out]; rfl
 have r0 : W2.cell? ⟨w.heap.size + 1,0,none⟩ = some (.int .i64 sso) := by unfold World.cell?; rw [HS2.out]; rfl
 have r1 : W2.cell? ⟨w.heap.size + 1,1,none⟩ = some (.bool son) := by unfold World.cell?; rw [HS2.out]; rfl
 have r2 : W2.cell? ⟨w.heap.size + 1,2,none⟩ = some (.int .i64 sn) := by unfold World.cell?; rw [HS2.out]; rfl
 have r3 : W2.cell? ⟨w.heap.size + 1,3,none⟩ = some (.string ⟨st.toArray⟩) := by unfold World.cell?; rw [HS2.out]; rfl
 have r4 : W2.cell? ⟨w.heap.size + 1,4,none⟩ = some (.slice s1 sm1 s2) := by unfold World.cell?; rw [HS2.out]; rfl
 have r5 : W2.cell? ⟨w.heap.size + 1,5,none⟩ = some (.slice s3 sm2 s4) := by unfold World.cell?; rw [HS2.out]; rfl
 have hc : ∀ W,Below W2.heap.size W2 W → (W.cell? ⟨w.heap.size,0,none⟩ = some (.int .i64 jso) ∧ W.cell? ⟨w.heap.size,1,none⟩ = some (.bool jon) ∧ W.cell? ⟨w.heap.size,2,none⟩ = some (.int .i64 jn) ∧ W.cell? ⟨w.heap.size,3,none⟩ = some (.string ⟨jt.toArray⟩) ∧ W.cell? ⟨w.heap.size,4,none⟩ = some (.slice j1 jm1 j2) ∧ W.cell? ⟨w.heap.size,5,none⟩ = some (.slice j3 jm2 j4) ∧ W.cell? ⟨w.heap.size + 1,0,none⟩ = some (.int .i64 sso) ∧ W.cell? ⟨w.heap.size + 1,1,none⟩ = some (.bool son) ∧ W.cell? ⟨w.heap.size + 1,2,none⟩ = some (.int .i64 sn) ∧ W.cell? ⟨w.heap.size + 1,3,none⟩ = some (.string ⟨st.toArray⟩) ∧ W.cell? ⟨w.heap.size + 1,4,none⟩ = some (.slice s1 sm1 s2) ∧ W.cell? ⟨w.heap.size + 1,5,none⟩ = some (.slice s3 sm2 s4) ∧ Below W2.heap.size W2 W) := fun W hb => ⟨(hb.cell (p := ⟨w.heap.size,0,none⟩) (show w.heap.size < W2.heap.size by omega)).trans p0,(hb.cell (p := ⟨w.heap.size,1,none⟩) (show w.heap.size < W2.heap.size by omega)).trans p1,(hb.cell (p := ⟨w.heap.size,2,none⟩) (show w.heap.size < W2.heap.size by omega)).trans p2,(hb.cell (p := ⟨w.heap.size,3,none⟩) (show w.heap.size < W2.heap.size by omega)).trans p3,(hb.cell (p := ⟨w.heap.size,4,none⟩) (show w.heap.size < W2.heap.size by omega)).trans p4,(hb.cell (p := ⟨w.heap.size,5,none⟩) (show w.heap.size < W2.heap.size by omega)).trans p5,(hb.cell (p := ⟨w.heap.size + 1,0,none⟩) (show w.heap.size + 1 < W2.heap.size by omega)).trans r0,(hb.cell (p := ⟨w.heap.size + 1,1,none⟩) (show w.heap.size + 1 < W2.heap.size by omega)).trans r1,(hb.cell (p := ⟨w.heap.size + 1,2,none⟩) (show w.heap.size + 1 < W2.heap.size by omega)).trans r2,(hb.cell (p := ⟨w.heap.size + 1,3,none⟩) (show w.heap.size + 1 < W2.heap.size by omega)).trans r3,(hb.cell (p := ⟨w.heap.size + 1,4,none⟩) (show w.heap.size + 1 < W2.heap.size by omega)).trans r4,(hb.cell (p := ⟨w.heap.size + 1,5,none⟩) (show w.heap.size + 1 < W2.heap.size by omega)).trans r5,hb⟩
 have hA : ∀ W ob,(W.cell? ⟨w.heap.size,0,none⟩ = some (.int .i64 jso) ∧ W.cell? ⟨w.heap.size,1,none⟩ = some (.bool jon) ∧ W.cell? ⟨w.heap.size,2,none⟩ = some (.int .i64 jn) ∧ W.cell? ⟨w.heap.size,3,none⟩ = some (.string ⟨jt.toArray⟩) ∧ W.cell? ⟨w.heap.size,4,none⟩ = some (.slice j1 jm1 j2) ∧ W.cell? ⟨w.heap.size,5,none⟩ = some (.slice j3 jm2 j4) ∧ W.cell? ⟨w.heap.size + 1,0,none⟩ = some (.int .i64 sso) ∧ W.cell? ⟨w.heap.size + 1,1,none⟩ = some (.bool son) ∧ W.cell? ⟨w.heap.size + 1,2,none⟩ = some (.int .i64 sn) ∧ W.cell? ⟨w.heap.size + 1,3,none⟩ = some (.string ⟨st.toArray⟩) ∧ W.cell? ⟨w.heap.size + 1,4,none⟩ = some (.slice s1 sm1 s2) ∧ W.cell? ⟨w.heap.size + 1,5,none⟩ = some (.slice s3 sm2 s4) ∧ Below W2.heap.size W2 W) → ((W.alloc ob).cell? ⟨w.heap.size,0,none⟩ = some (.int .i64 jso) ∧ (W.alloc ob).cell? ⟨w.heap.size,1,none⟩ = some (.bool jon) ∧ (W.alloc ob).cell? ⟨w.heap.size,2,none⟩ = some (.int .i64 jn) ∧ (W.alloc ob).cell? ⟨w.heap.size,3,none⟩ = some (.string ⟨jt.toArray⟩) ∧ (W.alloc ob).cell? ⟨w.heap.size,4,none⟩ = some (.slice j1 jm1 j2) ∧ (W.alloc ob).cell? ⟨w.heap.size,5,none⟩ = some (.slice j3 jm2 j4) ∧ (W.alloc ob).cell? ⟨w.heap.size + 1,0,none⟩ = some (.int .i64 sso) ∧ (W.alloc ob).cell? ⟨w.heap.size + 1,1,none⟩ = some (.bool son) ∧ (W.alloc ob).cell? ⟨w.heap.size + 1,2,none⟩ = some (.int .i64 sn) ∧ (W.alloc ob).cell? ⟨w.heap.size + 1,3,none⟩ = some (.string ⟨st.toArray⟩) ∧ (W.alloc ob).cell? ⟨w.heap.size + 1,4,none⟩ = some (.slice s1 sm1 s2) ∧ (W.alloc ob).cell? ⟨w.heap.size + 1,5,none⟩ = some (.slice s3 sm2 s4) ∧ Below W2.heap.size W2 (W.alloc ob)) := fun W ob hS => hc _ (hS.2.2.2.2.2.2.2.2.2.2.2.2.alloc hS.2.2.2.2.2.2.2.2.2.2.2.2.size ob)
 have hAD : ∀ ob,((W2.alloc ob).drew.cell? ⟨w.heap.size,0,none⟩ = some (.int .i64 jso) ∧ (W2.alloc ob).drew.cell? ⟨w.heap.size,1,none⟩ = some (.bool jon) ∧ (W2.alloc ob).drew.cell? ⟨w.heap.size,2,none⟩ = some (.int .i64 jn) ∧ (W2.alloc ob).drew.cell? ⟨w.heap.size,3,none⟩ = some (.string ⟨jt.toArray⟩) ∧ (W2.alloc ob).drew.cell? ⟨w.heap.size,4,none⟩ = some (.slice j1 jm1 j2) ∧ (W2.alloc ob).drew.cell? ⟨w.heap.size,5,none⟩ = some (.slice j3 jm2 j4) ∧ (W2.alloc ob).drew.cell? ⟨w.heap.size + 1,0,none⟩ = some (.int .i64 sso) ∧ (W2.alloc ob).drew.cell? ⟨w.heap.size + 1,1,none⟩ = some (.bool son) ∧ (W2.alloc ob).drew.cell? ⟨w.heap.size + 1,2,none⟩ = some (.int .i64 sn) ∧ (W2.alloc ob).drew.cell? ⟨w.heap.size + 1,3,none⟩ = some (.string ⟨st.toArray⟩) ∧ (W2.alloc ob).drew.cell? ⟨w.heap.size + 1,4,none⟩ = some (.slice s1 sm1 s2) ∧ (W2.alloc ob).drew.cell? ⟨w.heap.size + 1,5,none⟩ = some (.slice s3 sm2 s4) ∧ Below W2.heap.size W2 (W2.alloc ob).drew) := fun ob => hc _ ((Below.refl _ _).alloc (Nat.le_refl _) ob).drew
 have hT : ∀ W d i v,W2.heap.size ≤ d → (W.cell? ⟨w.heap.size,0,none⟩ = some (.int .i64 jso) ∧ W.cell? ⟨w.heap.size,1,none⟩ = some (.bool jon) ∧ W.cell? ⟨w.heap.size,2,none⟩ = some (.int .i64 jn) ∧ W.cell? ⟨w.heap.size,3,none⟩ = some (.string ⟨jt.toArray⟩) ∧ W.cell? ⟨w.heap.size,4,none⟩ = some (.slice j1 jm1 j2) ∧ W.cell? ⟨w.heap.size,5,none⟩ = some (.slice j3 jm2 j4) ∧ W.cell? ⟨w.heap.size + 1,0,none⟩ = some (.int .i64 sso) ∧ W.cell? ⟨w.heap.size + 1,1,none⟩ = some (.bool son) ∧ W.cell? ⟨w.heap.size + 1,2,none⟩ = some (.int .i64 sn) ∧ W.cell? ⟨w.heap.size + 1,3,none⟩ = some (.string ⟨st.toArray⟩) ∧ W.cell? ⟨w.heap.size + 1,4,none⟩ = some (.slice s1 sm1 s2) ∧ W.cell? ⟨w.heap.size + 1,5,none⟩ = some (.slice s3 sm2 s4) ∧ Below W2.heap.size W2 W) → ((W.setCell ⟨d,i,none⟩ v).cell? ⟨w.heap.size,0,none⟩ = some (.int .i64 jso) ∧ (W.setCell ⟨d,i,none⟩ v).cell? ⟨w.heap.size,1,none⟩ = some (.bool jon) ∧ (W.setCell ⟨d,i,none⟩ v).cell? ⟨w.heap.size,2,none⟩ = some (.int .i64 jn) ∧ (W.setCell ⟨d,i,none⟩ v).cell? ⟨w.heap.size,3,none⟩ = some (.string ⟨jt.toArray⟩) ∧ (W.setCell ⟨d,i,none⟩ v).cell? ⟨w.heap.size,4,none⟩ = some (.slice j1 jm1 j2) ∧ (W.setCell ⟨d,i,none⟩ v).cell? ⟨w.heap.size,5,none⟩ = some (.slice j3 jm2 j4) ∧ (W.setCell ⟨d,i,none⟩ v).cell? ⟨w.heap.size + 1,0,none⟩ = some (.int .i64 sso) ∧ (W.setCell ⟨d,i,none⟩ v).cell? ⟨w.heap.size + 1,1,none⟩ = some (.bool son) ∧ (W.setCell ⟨d,i,none⟩ v).cell? ⟨w.heap.size + 1,2,none⟩ = some (.int .i64 sn) ∧ (W.setCell ⟨d,i,none⟩ v).cell? ⟨w.heap.size + 1,3,none⟩ = some (.string ⟨st.toArray⟩) ∧ (W.setCell ⟨d,i,none⟩ v).cell? ⟨w.heap.size + 1,4,none⟩ = some (.slice s1 sm1 s2) ∧ (W.setCell ⟨d,i,none⟩ v).cell? ⟨w.heap.size + 1,5,none⟩ = some (.slice s3 sm2 s4) ∧ Below W2.heap.size W2 (W.setCell ⟨d,i,none⟩ v)) := fun W d i v hd hS => hc _ (hS.2.2.2.2.2.2.2.2.2.2.2.2.setCell (p := ⟨d,i,none⟩) hd v)
 have hS0 : (W2.drew.cell? ⟨w.heap.size,0,none⟩ = some (.int .i64 jso) ∧ W2.drew.cell? ⟨w.heap.size,1,none⟩ = some (.bool jon) ∧ W2.drew.cell? ⟨w.heap.size,2,none⟩ = some (.int .i64 jn) ∧ W2.drew.cell? ⟨w.heap.size,3,none⟩ = some (.string ⟨jt.toArray⟩) ∧ W2.drew.cell? ⟨w.heap.size,4,none⟩ = some (.slice j1 jm1 j2) ∧ W2.drew.cell? ⟨w.heap.size,5,none⟩ = some (.slice j3 jm2 j4) ∧ W2.drew.cell? ⟨w.heap.size + 1,0,none⟩ = some (.int .i64 sso) ∧ W2.drew.cell? ⟨w.heap.size + 1,1,none⟩ = some (.bool son) ∧ W2.drew.cell? ⟨w.heap.size + 1,2,none⟩ = some (.int .i64 sn) ∧ W2.drew.cell? ⟨w.heap.size + 1,3,none⟩ = some (.string ⟨st.toArray⟩) ∧ W2.drew.cell? ⟨w.heap.size + 1,4,none⟩ = some (.slice s1 sm1 s2) ∧ W2.drew.cell? ⟨w.heap.size + 1,5,none⟩ = some (.slice s3 sm2 s4) ∧ Below W2.heap.size W2 W2.drew) := hc _ (Below.refl _ _).drew
 have cJ : ∀ W,(W.cell? ⟨w.heap.size,0,none⟩ = some (.int .i64 jso) ∧ W.cell? ⟨w.heap.size,1,none⟩ = some (.bool jon) ∧ W.cell? ⟨w.heap.size,2,none⟩ = some (.int .i64 jn) ∧ W.cell? ⟨w.heap.size,3,none⟩ = some (.string ⟨jt.toArray⟩) ∧ W.cell? ⟨w.heap.size,4,none⟩ = some (.slice j1 jm1 j2) ∧ W.cell? ⟨w.heap.size,5,none⟩ = some (.slice j3 jm2 j4) ∧ W.cell? ⟨w.heap.size + 1,0,none⟩ = some (.int .i64 sso) ∧ W.cell? ⟨w.heap.size + 1,1,none⟩ = some (.bool son) ∧ W.cell? ⟨w.heap.size + 1,2,none⟩ = some (.int .i64 sn) ∧ W.cell? ⟨w.heap.size + 1,3,none⟩ = some (.string ⟨st.toArray⟩) ∧ W.cell? ⟨w.heap.size + 1,4,none⟩ = some (.slice s1 sm1 s2) ∧ W.cell? ⟨w.heap.size + 1,5,none⟩ = some (.slice s3 sm2 s4) ∧ Below W2.heap.size W2 W) → Calls Tryz.prog 20 #[.agg #[.int .i64 jso,.bool jon,.int .i64 jn,.string ⟨jt.toArray⟩,.slice j1 jm1 j2,.slice j3 jm2 j4]] W fun e w' => ∃ b1 b2,e = .returned (.agg #[.int .i64 jso,.bool jon,.int .i64 jn,.string ⟨jt.toArray⟩,.slice b1 jm1 b2,.slice j3 jm2 j4]) ∧ Hid (ValIn w' (fun _ => True) (.mk jso jon jn jt jl jks) (.slice b1 jm1 b2) (.slice j3 jm2 j4)) ∧ Hid (Below W.heap.size W w') ∧ W2.heap.size ≤ w'.heap.size ∧ (w'.cell? ⟨w.heap.size,0,none⟩ = some (.int .i64 jso) ∧ w'.cell? ⟨w.heap.size,1,none⟩ = some (.bool jon) ∧ w'.cell? ⟨w.heap.size,2,none⟩ = some (.int .i64 jn) ∧ w'.cell? ⟨w.heap.size,3,none⟩ = some (.string ⟨jt.toArray⟩) ∧ w'.cell? ⟨w.heap.size,4,none⟩ = some (.slice j1 jm1 j2) ∧ w'.cell? ⟨w.heap.size,5,none⟩ = some (.slice j3 jm2 j4) ∧ w'.cell? ⟨w.heap.size + 1,0,none⟩ = some (.int .i64 sso) ∧ w'.cell? ⟨w.heap.size + 1,1,none⟩ = some (.bool son) ∧ w'.cell? ⟨w.heap.size + 1,2,none⟩ = some (.int .i64 sn) ∧ w'.cell? ⟨w.heap.size + 1,3,none⟩ = some (.string ⟨st.toArray⟩) ∧ w'.cell? ⟨w.heap.size + 1,4,none⟩ = some (.slice s1 sm1 s2) ∧ w'.cell? ⟨w.heap.size + 1,5,none⟩ = some (.slice s3 sm2 s4) ∧ Below W2.heap.size W2 w') := fun W hS => by
  refine (CjO.out W (HB2.out.trans (hS.2.2.2.2.2.2.2.2.2.2.2.2.mono (by omega)))).mono ?_
  rintro e w' ⟨hb,lv,rfl,hv⟩
  have hv' := hv
  obtain ⟨⟨b1,b2,rfl,_⟩,_⟩ := hv'
  rw [hj1] at hv
  exact ⟨b1,b2,by rw [hj1],Lib.hid hv,Lib.hid hb,Nat.le_trans hS.2.2.2.2.2.2.2.2.2.2.2.2.size hb.size,hc _ (hS.2.2.2.2.2.2.2.2.2.2.2.2.trans (hb.mono hS.2.2.2.2.2.2.2.2.2.2.2.2.size))⟩
 have cS : ∀ W,(W.cell? ⟨w.heap.size,0,none⟩ = some (.int .i64 jso) ∧ W.cell? ⟨w.heap.size,1,none⟩ = some (.bool jon) ∧ W.cell? ⟨w.heap.size,2,none⟩ = some (.int .i64 jn) ∧ W.cell? ⟨w.heap.size,3,none⟩ = some (.string ⟨jt.toArray⟩) ∧ W.cell? ⟨w.heap.size,4,none⟩ = some (.slice j1 jm1 j2) ∧ W.cell? ⟨w.heap.size,5,none⟩ = some (.slice j3 jm2 j4) ∧ W.cell? ⟨w.heap.size + 1,0,none⟩ = some (.int .i64 sso) ∧ W.cell? ⟨w.heap.size + 1,1,none⟩ = some (.bool son) ∧ W.cell? ⟨w.heap.size + 1,2,none⟩ = some (.int .i64 sn) ∧ W.cell? ⟨w.heap.size + 1,3,none⟩ = some (.string ⟨st.toArray⟩) ∧ W.cell? ⟨w.heap.size + 1,4,none⟩ = some (.slice s1 sm1 s2) ∧ W.cell? ⟨w.heap.size + 1,5,none⟩ = some (.slice s3 sm2 s4) ∧ Below W2.heap.size W2 W) → Calls Tryz.prog 20 #[.agg #[.int .i64 sso,.bool son,.int .i64 sn,.string ⟨st.toArray⟩,.slice s1 sm1 s2,.slice s3 sm2 s4]] W fun e w' => ∃ b1 b2,e = .returned (.agg #[.int .i64 sso,.bool son,.int .i64 sn,.string ⟨st.toArray⟩,.slice b1 sm1 b2,.slice s3 sm2 s4]) ∧ Hid (ValIn w' (fun _ => True) (.mk sso son sn st sl sks) (.slice b1 sm1 b2) (.slice s3 sm2 s4)) ∧ Hid (Below W.heap.size W w') ∧ W2.heap.size ≤ w'.heap.size ∧ (w'.cell? ⟨w.heap.size,0,none⟩ = some (.int .i64 jso) ∧ w'.cell? ⟨w.heap.size,1,none⟩ = some (.bool jon) ∧ w'.cell? ⟨w.heap.size,2,none⟩ = some (.int .i64 jn) ∧ w'.cell? ⟨w.heap.size,3,none⟩ = some (.string ⟨jt.toArray⟩) ∧ w'.cell? ⟨w.heap.size,4,none⟩ = some (.slice j1 jm1 j2) ∧ w'.cell? ⟨w.heap.size,5,none⟩ = some (.slice j3 jm2 j4) ∧ w'.cell? ⟨w.heap.size + 1,0,none⟩ = some (.int .i64 sso) ∧ w'.cell? ⟨w.heap.size + 1,1,none⟩ = some (.bool son) ∧ w'.cell? ⟨w.heap.size + 1,2,none⟩ = some (.int .i64 sn) ∧ w'.cell? ⟨w.heap.size + 1,3,none⟩ = some (.string ⟨st.toArray⟩) ∧ w'.cell? ⟨w.heap.size + 1,4,none⟩ = some (.slice s1 sm1 s2) ∧ w'.cell? ⟨w.heap.size + 1,5,none⟩ = some (.slice s3 sm2 s4) ∧ Below W2.heap.size W2 w') := fun W hS => by
  refine (CsO.out W (HB2.out.trans (hS.2.2.2.2.2.2.2.2.2.2.2.2.mono (by omega)))).mono ?_
  rintro e w' ⟨hb,lv,rfl,hv⟩
  have hv' := hv
  obtain ⟨⟨b1,b2,rfl,_⟩,_⟩ := hv'
  rw [hs1] at hv
  exact ⟨b1,b2,by rw [hs1],Lib.hid hv,Lib.hid hb,Nat.le_trans hS.2.2.2.2.2.2.2.2.2.2.2.2.size hb.size,hc _ (hS.2.2.2.2.2.2.2.2.2.2.2.2.trans (hb.mono hS.2.2.2.2.2.2.2.2.2.2.2.2.size))⟩
 have cRp : ∀ W b1 b2 d1 d2,(W.cell? ⟨w.heap.size,0,none⟩ = some (.int .i64 jso) ∧ W.cell? ⟨w.heap.size,1,none⟩ = some (.bool jon) ∧ W.cell? ⟨w.heap.size,2,none⟩ = some (.int .i64 jn) ∧ W.cell? ⟨w.heap.size,3,none⟩ = some (.string ⟨jt.toArray⟩) ∧ W.cell? ⟨w.heap.size,4,none⟩ = some (.slice j1 jm1 j2) ∧ W.cell? ⟨w.heap.size,5,none⟩ = some (.slice j3 jm2 j4) ∧ W.cell? ⟨w.heap.size + 1,0,none⟩ = some (.int .i64 sso) ∧ W.cell? ⟨w.heap.size + 1,1,none⟩ = some (.bool son) ∧ W.cell? ⟨w.heap.size + 1,2,none⟩ = some (.int .i64 sn) ∧ W.cell? ⟨w.heap.size + 1,3,none⟩ = some (.string ⟨st.toArray⟩) ∧ W.cell? ⟨w.heap.size + 1,4,none⟩ = some (.slice s1 sm1 s2) ∧ W.cell? ⟨w.heap.size + 1,5,none⟩ = some (.slice s3 sm2 s4) ∧ Below W2.heap.size W2 W) → ValIn W (fun _ => True) (.mk jso jon jn jt jl jks) (.slice b1 jm1 b2) (.slice j3 jm2 j4) → ValIn W (fun _ => True) (.mk sso son sn st sl sks) (.slice d1 sm1 d2) (.slice s3 sm2 s4) → Calls Tryz.prog 21 #[.agg #[.int .i64 jso,.bool jon,.int .i64 jn,.string ⟨jt.toArray⟩,.slice b1 jm1 b2,.slice j3 jm2 j4],.agg #[.int .i64 sso,.bool son,.int .i64 sn,.string ⟨st.toArray⟩,.slice d1 sm1 d2,.slice s3 sm2 s4]] W fun e w' => ∃ x1 x2 x3 x4,e = .returned (.agg #[.int .i64 5,.bool false,.int .i64 0,.string ⟨#[]⟩,.slice x1 3 x2,.slice x3 3 x4]) ∧ Hid (ValIn w' (fun b => W.heap.size ≤ b ∧ b < w'.heap.size) (replyV (.mk jso jon jn jt jl jks) (.mk sso son sn st sl sks)) (.slice x1 3 x2) (.slice x3 3 x4)) ∧ Hid (Below W.heap.size W w') ∧ (w'.cell? ⟨w.heap.size,0,none⟩ = some (.int .i64 jso) ∧ w'.cell? ⟨w.heap.size,1,none⟩ = some (.bool jon) ∧ w'.cell? ⟨w.heap.size,2,none⟩ = some (.int .i64 jn) ∧ w'.cell? ⟨w.heap.size,3,none⟩ = some (.string ⟨jt.toArray⟩) ∧ w'.cell? ⟨w.heap.size,4,none⟩ = some (.slice j1 jm1 j2) ∧ w'.cell? ⟨w.heap.size,5,none⟩ = some (.slice j3 jm2 j4) ∧ w'.cell? ⟨w.heap.size + 1,0,none⟩ = some (.int .i64 sso) ∧ w'.cell? ⟨w.heap.size + 1,1,none⟩ = some (.bool son) ∧ w'.cell? ⟨w.heap.size + 1,2,none⟩ = some (.int .i64 sn) ∧ w'.cell? ⟨w.heap.size + 1,3,none⟩ = some (.string ⟨st.toArray⟩) ∧ w'.cell? ⟨w.heap.size + 1,4,none⟩ = some (.slice s1 sm1 s2) ∧ w'.cell? ⟨w.heap.size + 1,5,none⟩ = some (.slice s3 sm2 s4) ∧ Below W2.heap.size W2 w') := fun W b1 b2 d1 d2 hS v1 v2 => by
  subst hj1 hj2 hs1 hs2
  refine (reply_any _ _ _ _ _ _ _ W v1 v2 (by omega) (by omega)).mono ?_
  rintro e w' ⟨hb,lv,kv,rfl,hv⟩
  have hv' := hv
  obtain ⟨⟨x1,x2,rfl,_⟩,⟨x3,x4,rfl,_⟩⟩ := hv'
  exact ⟨x1,x2,x3,x4,rfl,Lib.hid (ValIn.bound _ _ _ hv),Lib.hid hb,hc _ (hS.2.2.2.2.2.2.2.2.2.2.2.2.trans (hb.mono hS.2.2.2.2.2.2.2.2.2.2.2.2.size))⟩
 have cRd : ∀ W d b1 b2 d1 d2,(W.cell? ⟨w.heap.size,0,none⟩ = some (.int .i64 jso) ∧ W.cell? ⟨w.heap.size,1,none⟩ = some (.bool jon) ∧ W.cell? ⟨w.heap.size,2,none⟩ = some (.int .i64 jn) ∧ W.cell? ⟨w.heap.size,3,none⟩ = some (.string ⟨jt.toArray⟩) ∧ W.cell? ⟨w.heap.size,4,none⟩ = some (.slice j1 jm1 j2) ∧ W.cell? ⟨w.heap.size,5,none⟩ = some (.slice j3 jm2 j4) ∧ W.cell? ⟨w.heap.size + 1,0,none⟩ = some (.int .i64 sso) ∧ W.cell? ⟨w.heap.size + 1,1,none⟩ = some (.bool son) ∧ W.cell? ⟨w.heap.size + 1,2,none⟩ = some (.int .i64 sn) ∧ W.cell? ⟨w.heap.size + 1,3,none⟩ = some (.string ⟨st.toArray⟩) ∧ W.cell? ⟨w.heap.size + 1,4,none⟩ = some (.slice s1 sm1 s2) ∧ W.cell? ⟨w.heap.size + 1,5,none⟩ = some (.slice s3 sm2 s4) ∧ Below W2.heap.size W2 W) → ValIn W (fun _ => True) (.mk jso jon jn jt jl jks) (.slice b1 jm1 b2) (.slice j3 jm2 j4) → ValIn W (fun _ => True) (.mk sso son sn st sl sks) (.slice d1 sm1 d2) (.slice s3 sm2 s4) → W.heap[d]? = some (.cells #[.int .i64 0,.bool false,.int .i64 0,.string ⟨#[]⟩,.slice none 0 0,.slice none 0 0] 36 (0,0)) → Calls Tryz.prog 21 #[.agg #[.int .i64 jso,.bool jon,.int .i64 jn,.string ⟨jt.toArray⟩,.slice b1 jm1 b2,.slice j3 jm2 j4],.agg #[.int .i64 sso,.bool son,.int .i64 sn,.string ⟨st.toArray⟩,.slice d1 sm1 d2,.slice s3 sm2 s4]] W fun e w' => ∃ x1 x2 x3 x4 d',e = .returned (.agg #[.int .i64 5,.bool false,.int .i64 0,.string ⟨#[]⟩,.slice x1 3 x2,.slice x3 3 x4]) ∧ Hid (ValIn w' (fun b => b ≠ d) (replyV (.mk jso jon jn jt jl jks) (.mk sso son sn st sl sks)) (.slice x1 3 x2) (.slice x3 3 x4)) ∧ Hid (d = d') ∧ Hid (w'.heap[d]? = some (.cells #[.int .i64 0,.bool false,.int .i64 0,.string ⟨#[]⟩,.slice none 0 0,.slice none 0 0] 36 (0,0))) ∧ w'.cell? ⟨d,0,none⟩ = some (.int .i64 0) ∧ w'.cell? ⟨d,1,none⟩ = some (.bool false) ∧ w'.cell? ⟨d,2,none⟩ = some (.int .i64 0) ∧ w'.cell? ⟨d,3,none⟩ = some (.string ⟨#[]⟩) ∧ w'.cell? ⟨d,4,none⟩ = some (.slice none 0 0) ∧ w'.cell? ⟨d,5,none⟩ = some (.slice none 0 0) ∧ (∀ i,w'.frozen? ⟨d,i,none⟩ = false) ∧ (w'.cell? ⟨w.heap.size,0,none⟩ = some (.int .i64 jso) ∧ w'.cell? ⟨w.heap.size,1,none⟩ = some (.bool jon) ∧ w'.cell? ⟨w.heap.size,2,none⟩ = some (.int .i64 jn) ∧ w'.cell? ⟨w.heap.size,3,none⟩ = some (.string ⟨jt.toArray⟩) ∧ w'.cell? ⟨w.heap.size,4,none⟩ = some (.slice j1 jm1 j2) ∧ w'.cell? ⟨w.heap.size,5,none⟩ = some (.slice j3 jm2 j4) ∧ w'.cell? ⟨w.heap.size + 1,0,none⟩ = some (.int .i64 sso) ∧ w'.cell? ⟨w.heap.size + 1,1,none⟩ = some (.bool son) ∧ w'.cell? ⟨w.heap.size + 1,2,none⟩ = some (.int .i64 sn) ∧ w'.cell? ⟨w.heap.size + 1,3,none⟩ = some (.string ⟨st.toArray⟩) ∧ w'.cell? ⟨w.heap.size + 1,4,none⟩ = some (.slice s1 sm1 s2) ∧ w'.cell? ⟨w.heap.size + 1,5,none⟩ = some (.slice s3 sm2 s4) ∧ Below W2.heap.size W2 w') := fun W d b1 b2 d1 d2 hS v1 v2 hd => by
  refine (cRp W b1 b2 d1 d2 hS v1 v2).mono ?_
  rintro e w' ⟨x1,x2,x3,x4,rfl,hv,hb,hS'⟩
  have hdl : d < W.heap.size := (Array.getElem?_eq_some_iff.1 hd).1
  have hz := (hb.out.block d hdl).trans hd
  obtain ⟨⟨k0,k1,k2,k3,k4,k5⟩,kf⟩ := cells_six hz
  exact ⟨x1,x2,x3,x4,d,rfl,Lib.hid (ValIn.later (fun _ _ _ => rfl) (fun b hb => by omega) _ _ _ hv.out),Lib.hid rfl,Lib.hid hz,k0,k1,k2,k3,k4,k5,kf,hS'⟩
 have hz22 : W2.heap.size ≤ W2.heap.size := Nat.le_refl _
 have hdz : ∀ W : World,W.drew.heap.size = W.heap.size := fun _ => rfl
 clear p0 r0 p1 r1 p2 r2 p3 r3 p4 r4 p5 r5
 go_upto_region 3 with fail
 go_cut [7] (fun v7 wx => ∃ q x1 x2 x3 x4,v7 = .pointer (some ⟨q,0,none⟩) ∧ Hid (W2.heap.size ≤ q ∧ Below W2.heap.size W2 wx ∧ wx.heap[q]? = some (.cells #[.int .i64 5,.bool false,.int .i64 0,.string ⟨#[]⟩,.slice x1 3 x2,.slice x3 3 x4] 36 (0,0)) ∧ ValIn wx (fun b => b ≠ q) (replyV (.mk jso jon jn jt jl jks) (.mk sso son sn st sl sks)) (.slice x1 3 x2) (.slice x3 3 x4)))
 case first =>
  go_region_held3 (fun W => (W.cell? ⟨w.heap.size,0,none⟩ = some (.int .i64 jso) ∧ W.cell? ⟨w.heap.size,1,none⟩ = some (.bool jon) ∧ W.cell? ⟨w.heap.size,2,none⟩ = some (.int .i64 jn) ∧ W.cell? ⟨w.heap.size,3,none⟩ = some (.string ⟨jt.toArray⟩) ∧ W.cell? ⟨w.heap.size,4,none⟩ = some (.slice j1 jm1 j2) ∧ W.cell? ⟨w.heap.size,5,none⟩ = some (.slice j3 jm2 j4) ∧ W.cell? ⟨w.heap.size + 1,0,none⟩ = some (.int .i64 sso) ∧ W.cell? ⟨w.heap.size + 1,1,none⟩ = some (.bool son) ∧ W.cell? ⟨w.heap.size + 1,2,none⟩ = some (.int .i64 sn) ∧ W.cell? ⟨w.heap.size + 1,3,none⟩ = some (.string ⟨st.toArray⟩) ∧ W.cell? ⟨w.heap.size + 1,4,none⟩ = some (.slice s1 sm1 s2) ∧ W.cell? ⟨w.heap.size + 1,5,none⟩ = some (.slice s3 sm2 s4) ∧ Below W2.heap.size W2 W)) (with_reducible (repeat (first | assumption | exact hAD _ | refine hA _ _ ?_ | refine hT _ _ _ _ ?_ ?_))) (first
   | (go_at_call 20; (with_reducible refine (cJ _ ?_).mono ?_); (with_reducible (repeat (first | assumption | exact hAD _ | refine hA _ _ ?_))); rintro e wa ⟨b1,b2,rfl,HVa,HBa,hsa,hSa⟩)
   | (go_at_call 20; (with_reducible refine (cS _ ?_).mono ?_); (with_reducible (repeat (first | assumption | exact hAD _ | refine hA _ _ ?_))); rintro e wb ⟨d1,d2,rfl,HVb,HBb,hsb,hSb⟩)
   | (go_at_call 21; (with_reducible refine (cRd (wb.alloc _) wb.heap.size b1 b2 d1 d2 ?_ ?_ ?_ ?_).mono ?_); (with_reducible (repeat (first | assumption | exact hAD _ | refine hA _ _ ?_))); (exact val_below (val_below HVa.out HBb.out) ((Below.refl _ _).alloc (Nat.le_refl _) _)); (exact val_below HVb.out ((Below.refl _ _).alloc (Nat.le_refl _) _)); (exact heap_alloc_new _ _); rintro e wq ⟨x1,x2,x3,x4,d,rfl,HV,HD,hh,k0,k1,k2,k3,k4,k5,kf,hSq⟩)
   | (go_at_call 21; (with_reducible refine (cRd _ wa.heap.size b1 b2 d1 d2 ?_ ?_ ?_ ?_).mono ?_); (with_reducible (repeat (first | assumption | exact hAD _ | refine hA _ _ ?_))); (with_reducible exact val_below (val_below HVa.out ((Below.refl _ _).alloc (Nat.le_refl _) _)) HBb.out); (exact HVb.out); (with_reducible exact kept2 HBb.out); rintro e wq ⟨x1,x2,x3,x4,d,rfl,HV,HD,hh,k0,k1,k2,k3,k4,k5,kf,hSq⟩)
   | (go_at_call 21; (with_reducible refine (cRd _ W2.heap.size b1 b2 d1 d2 ?_ ?_ ?_ ?_).mono ?_); (with_reducible (repeat (first | assumption | exact hAD _ | refine hA _ _ ?_))); (with_reducible exact val_below HVa.out HBb.out); (exact HVb.out); (with_reducible exact kept3 HBa.out HBb.out); rintro e wq ⟨x1,x2,x3,x4,d,rfl,HV,HD,hh,k0,k1,k2,k3,k4,k5,kf,hSq⟩)
   | (go_at_call 21; (with_reducible refine (cRp _ b1 b2 d1 d2 ?_ ?_ ?_).mono ?_); (with_reducible (repeat (first | assumption | exact hAD _ | refine hA _ _ ?_))); (exact val_below HVa.out HBb.out); (exact HVb.out); rintro e wq ⟨x1,x2,x3,x4,rfl,HV,HBq,hSq⟩))
  all_goals
   have hsq := hSq.2.2.2.2.2.2.2.2.2.2.2.2.size
   go_wp2_with fail
   go_meet
   first
   | (clear HBq
      exact ⟨wq.heap.size,x1,x2,x3,x4,rfl,Lib.hid ⟨hsq,hSq.2.2.2.2.2.2.2.2.2.2.2.2.alloc hsq _,heap_alloc_new _ _,ValIn.later (fun _ _ _ => rfl) (fun b hb => by omega) _ _ _ (val_below HV.out ((Below.refl _ _).alloc (Nat.le_refl _) _))⟩⟩)
   | (obtain ⟨HP1,HMB,HV4⟩ := ret6 (so := 5) (on := false) (n := 0) (t := []) hh.out hSq.2.2.2.2.2.2.2.2.2.2.2.2 (by omega) HV.out (fun b hb => hb)
      refine ⟨_,x1,x2,x3,x4,rfl,Lib.hid ⟨?_,?_,?_,?_⟩⟩
      ·omega
      ·exact HMB.out
      ·exact HP1.out
      ·exact HV4.out)
 case rest =>
  obtain ⟨xq,x1,x2,x3,x4,rfl,HX⟩ := hcut
  obtain ⟨hxq,hbc,hxc,hvx⟩ := HX.out
  have hzc := hbc.size
  have hxl : xq < wc.heap.size := (Array.getElem?_eq_some_iff.1 hxc).1
  have HJa := Lib.hid ((hbc.block w.heap.size (by omega)).trans HJ2.out)
  have HSa := Lib.hid ((hbc.block (w.heap.size + 1) (by omega)).trans HS2.out)
  have HXa := Lib.hid hxc
  have HVXa := Lib.hid (valIn_true hvx)
  have HBa := Lib.hid (HB2.out.trans (hbc.mono HB2.out.size))
  have HIa := Lib.hid (val_below HI.out HBa.out)
  have HRa := Lib.hid (val_below HR.out HBa.out)
  have hza : w.heap.size + 2 ≤ wc.heap.size := by omega
  clear HX hbc hxc hvx hc hA hAD hT hS0 cJ cS cRp cRd hdz HJ2 HS2 HB2 hz22 HI HR
  have p0 : wc.cell? ⟨w.heap.size,0,none⟩ = some (.int .i64 jso) := by unfold World.cell?; rw [HJa.out]; rfl
  have p1 : wc.cell? ⟨w.heap.size,1,none⟩ = some (.bool jon) := by unfold World.cell?; rw [HJa.out]; rfl
  have p2 : wc.cell? ⟨w.heap.size,2,none⟩ = some (.int .i64 jn) := by unfold World.cell?; rw [HJa.out]; rfl
  have p3 : wc.cell? ⟨w.heap.size,3,none⟩ = some (.string ⟨jt.toArray⟩) := by unfold World.cell?; rw [HJa.out]; rfl
  have p4 : wc.cell? ⟨w.heap.size,4,none⟩ = some (.slice j1 jm1 j2) := by unfold World.cell?; rw [HJa.out]; rfl
  have p5 : wc.cell? ⟨w.heap.size,5,none⟩ = some (.slice j3 jm2 j4) := by unfold World.cell?; rw [HJa.out]; rfl
  go_wp2_with fail
  refine (CjO.out wc HBa.out).mono ?_
  rintro e wb1 ⟨hbo,lvo,rfl,hvo⟩
  have hvo' := hvo
  obtain ⟨⟨o1,o2,rfl,_⟩,_⟩ := hvo'
  clear p0 p1 p2 p3 p4 p5
  have cF := fail_any (.mk jso jon jn jt jl jks) er _ _ _ wb1 hvo (by omega)
  simp only [arg,six',six,strCell] at cF
  rw [hj1] at hvo cF ⊢
  have CF := Lib.hid cF
  clear cF
  go_wp2_with fail
  refine CF.out.mono ?_
  rintro e wb2 ⟨hbf,lvf,kvf,rfl,hvf⟩
  have hvf' := hvf
  obtain ⟨⟨y1,y2,rfl,_⟩,⟨y3,y4,rfl,_⟩⟩ := hvf'
  clear CF
  simp only [failV,recP,List.length_cons,List.length_nil,Nat.zero_add,Nat.reduceAdd]
  obtain ⟨yq,hqy⟩ : ∃ q,wb2.heap.size = q := ⟨_,rfl⟩
  go_upto_region 5 with fail
  obtain ⟨Wb,hWb⟩ : ∃ W,wb2.alloc (.cells #[.int .i64 5,.bool false,.int .i64 0,.string ⟨#[]⟩,.slice y1 3 y2,.slice y3 3 y4] 36) = W := ⟨_,rfl⟩
  have hbn : Below wb2.heap.size wb2 Wb := by rw [← hWb]; exact (Below.refl _ _).alloc (Nat.le_refl _) _
  have hbb : Below wc.heap.size wc Wb := hbo.trans ((hbf.trans (hbn.mono hbf.size)).mono hbo.size)
  have hzb : w.heap.size + 2 ≤ Wb.heap.size := by have := (hbb).size; omega
  have HJb := Lib.hid (((hbb).block w.heap.size (by omega)).trans HJa.out)
  have HSb := Lib.hid (((hbb).block (w.heap.size + 1) (by omega)).trans HSa.out)
  have HXb := Lib.hid (((hbb).block xq (Array.getElem?_eq_some_iff.1 HXa.out).1).trans HXa.out)
  have HVXb := Lib.hid (val_below HVXa.out (hbb))
  have HBb := Lib.hid (HBa.out.trans ((hbb).mono HBa.out.size))
  have HIb := Lib.hid (val_below HIa.out (hbb))
  have HRb := Lib.hid (val_below HRa.out (hbb))
  clear HJa HSa HBa HIa HRa HXa HVXa
  have HYb := Lib.hid (show Wb.heap[yq]? = some (.cells #[.int .i64 5,.bool false,.int .i64 0,.string ⟨#[]⟩,.slice y1 3 y2,.slice y3 3 y4] 36 (0,0)) by rw [← hWb,← hqy]; exact heap_alloc_new _ _)
  have HVYb := Lib.hid (valIn_true (val_below hvf hbn))
  (try rw [hWb])
  clear hbo hbf hbn hbb hvo hvf hWb hqy
  have p0 : Wb.cell? ⟨w.heap.size + 1,0,none⟩ = some (.int .i64 sso) := by unfold World.cell?; rw [HSb.out]; rfl
  have p1 : Wb.cell? ⟨w.heap.size + 1,1,none⟩ = some (.bool son) := by unfold World.cell?; rw [HSb.out]; rfl
  have p2 : Wb.cell? ⟨w.heap.size + 1,2,none⟩ = some (.int .i64 sn) := by unfold World.cell?; rw [HSb.out]; rfl
  have p3 : Wb.cell? ⟨w.heap.size + 1,3,none⟩ = some (.string ⟨st.toArray⟩) := by unfold World.cell?; rw [HSb.out]; rfl
  have p4 : Wb.cell? ⟨w.heap.size + 1,4,none⟩ = some (.slice s1 sm1 s2) := by unfold World.cell?; rw [HSb.out]; rfl
  have p5 : Wb.cell? ⟨w.heap.size + 1,5,none⟩ = some (.slice s3 sm2 s4) := by unfold World.cell?; rw [HSb.out]; rfl
  go_wp2_with fail
  refine (CsO.out Wb HBb.out).mono ?_
  rintro e wc1 ⟨hbo,lvo,rfl,hvo⟩
  have hvo' := hvo
  obtain ⟨⟨o1,o2,rfl,_⟩,_⟩ := hvo'
  clear p0 p1 p2 p3 p4 p5
  have cF := note_any bPublish (.mk sso son sn st sl sks) _ _ _ wc1 hvo (by omega)
  simp only [arg,six',six,strCell] at cF
  rw [hs1] at hvo cF ⊢
  have CF := Lib.hid cF
  clear cF
  go_wp2_with fail
  refine CF.out.mono ?_
  rintro e wc2 ⟨hbf,lvf,kvf,rfl,hvf⟩
  have hvf' := hvf
  obtain ⟨⟨n1,n2,rfl,_⟩,⟨n3,n4,rfl,_⟩⟩ := hvf'
  clear CF
  simp only [noteV,recP,List.length_cons,List.length_nil,Nat.zero_add,Nat.reduceAdd]
  obtain ⟨nq,hqn⟩ : ∃ q,wc2.heap.size = q := ⟨_,rfl⟩
  go_upto_region 6 with fail
  obtain ⟨Wc,hWc⟩ : ∃ W,wc2.alloc (.cells #[.int .i64 5,.bool false,.int .i64 0,.string ⟨#[]⟩,.slice n1 3 n2,.slice n3 3 n4] 36) = W := ⟨_,rfl⟩
  have hbn : Below wc2.heap.size wc2 Wc := by rw [← hWc]; exact (Below.refl _ _).alloc (Nat.le_refl _) _
  have hbc : Below Wb.heap.size Wb Wc := hbo.trans ((hbf.trans (hbn.mono hbf.size)).mono hbo.size)
  have hzc : w.heap.size + 2 ≤ Wc.heap.size := by have := (hbc).size; omega
  have HJc := Lib.hid (((hbc).block w.heap.size (by omega)).trans HJb.out)
  have HSc := Lib.hid (((hbc).block (w.heap.size + 1) (by omega)).trans HSb.out)
  have HXc := Lib.hid (((hbc).block xq (Array.getElem?_eq_some_iff.1 HXb.out).1).trans HXb.out)
  have HVXc := Lib.hid (val_below HVXb.out (hbc))
  have HYc := Lib.hid (((hbc).block yq (Array.getElem?_eq_some_iff.1 HYb.out).1).trans HYb.out)
  have HVYc := Lib.hid (val_below HVYb.out (hbc))
  have HBc := Lib.hid (HBb.out.trans ((hbc).mono HBb.out.size))
  have HIc := Lib.hid (val_below HIb.out (hbc))
  have HRc := Lib.hid (val_below HRb.out (hbc))
  clear HJb HSb HBb HIb HRb HXb HVXb HYb HVYb
  have HNc := Lib.hid (show Wc.heap[nq]? = some (.cells #[.int .i64 5,.bool false,.int .i64 0,.string ⟨#[]⟩,.slice n1 3 n2,.slice n3 3 n4] 36 (0,0)) by rw [← hWc,← hqn]; exact heap_alloc_new _ _)
  have HVNc := Lib.hid (valIn_true (val_below hvf hbn))
  (try rw [hWc])
  clear hbo hbf hbn hbc hvo hvf hWc hqn
  have hltx : xq < Wc.heap.size := (Array.getElem?_eq_some_iff.1 HXc.out).1
  have p0 : Wc.cell? ⟨xq,0,none⟩ = some (.int .i64 5) := by unfold World.cell?; rw [HXc.out]; rfl
  have p1 : Wc.cell? ⟨xq,1,none⟩ = some (.bool false) := by unfold World.cell?; rw [HXc.out]; rfl
  have p2 : Wc.cell? ⟨xq,2,none⟩ = some (.int .i64 0) := by unfold World.cell?; rw [HXc.out]; rfl
  have p3 : Wc.cell? ⟨xq,3,none⟩ = some (.string ⟨#[]⟩) := by unfold World.cell?; rw [HXc.out]; rfl
  have p4 : Wc.cell? ⟨xq,4,none⟩ = some (.slice x1 3 x2) := by unfold World.cell?; rw [HXc.out]; rfl
  have p5 : Wc.cell? ⟨xq,5,none⟩ = some (.slice x3 3 x4) := by unfold World.cell?; rw [HXc.out]; rfl
  have q0 : Wc.cell? ⟨w.heap.size,0,none⟩ = some (.int .i64 jso) := by unfold World.cell?; rw [HJc.out]; rfl
  have q1 : Wc.cell? ⟨w.heap.size,1,none⟩ = some (.bool jon) := by unfold World.cell?; rw [HJc.out]; rfl
  have q2 : Wc.cell? ⟨w.heap.size,2,none⟩ = some (.int .i64 jn) := by unfold World.cell?; rw [HJc.out]; rfl
  have q3 : Wc.cell? ⟨w.heap.size,3,none⟩ = some (.string ⟨jt.toArray⟩) := by unfold World.cell?; rw [HJc.out]; rfl
  have q4 : Wc.cell? ⟨w.heap.size,4,none⟩ = some (.slice j1 jm1 j2) := by unfold World.cell?; rw [HJc.out]; rfl
  have q5 : Wc.cell? ⟨w.heap.size,5,none⟩ = some (.slice j3 jm2 j4) := by unfold World.cell?; rw [HJc.out]; rfl
  have r0 : Wc.cell? ⟨w.heap.size + 1,0,none⟩ = some (.int .i64 sso) := by unfold World.cell?; rw [HSc.out]; rfl
  have r1 : Wc.cell? ⟨w.heap.size + 1,1,none⟩ = some (.bool son) := by unfold World.cell?; rw [HSc.out]; rfl
  have r2 : Wc.cell? ⟨w.heap.size + 1,2,none⟩ = some (.int .i64 sn) := by unfold World.cell?; rw [HSc.out]; rfl
  have r3 : Wc.cell? ⟨w.heap.size + 1,3,none⟩ = some (.string ⟨st.toArray⟩) := by unfold World.cell?; rw [HSc.out]; rfl
  have r4 : Wc.cell? ⟨w.heap.size + 1,4,none⟩ = some (.slice s1 sm1 s2) := by unfold World.cell?; rw [HSc.out]; rfl
  have r5 : Wc.cell? ⟨w.heap.size + 1,5,none⟩ = some (.slice s3 sm2 s4) := by unfold World.cell?; rw [HSc.out]; rfl
  have hc : ∀ X,Below Wc.heap.size Wc X → (X.cell? ⟨xq,0,none⟩ = some (.int .i64 5) ∧ X.cell? ⟨xq,1,none⟩ = some (.bool false) ∧ X.cell? ⟨xq,2,none⟩ = some (.int .i64 0) ∧ X.cell? ⟨xq,3,none⟩ = some (.string ⟨#[]⟩) ∧ X.cell? ⟨xq,4,none⟩ = some (.slice x1 3 x2) ∧ X.cell? ⟨xq,5,none⟩ = some (.slice x3 3 x4) ∧ X.cell? ⟨w.heap.size,0,none⟩ = some (.int .i64 jso) ∧ X.cell? ⟨w.heap.size,1,none⟩ = some (.bool jon) ∧ X.cell? ⟨w.heap.size,2,none⟩ = some (.int .i64 jn) ∧ X.cell? ⟨w.heap.size,3,none⟩ = some (.string ⟨jt.toArray⟩) ∧ X.cell? ⟨w.heap.size,4,none⟩ = some (.slice j1 jm1 j2) ∧ X.cell? ⟨w.heap.size,5,none⟩ = some (.slice j3 jm2 j4) ∧ X.cell? ⟨w.heap.size + 1,0,none⟩ = some (.int .i64 sso) ∧ X.cell? ⟨w.heap.size + 1,1,none⟩ = some (.bool son) ∧ X.cell? ⟨w.heap.size + 1,2,none⟩ = some (.int .i64 sn) ∧ X.cell? ⟨w.heap.size + 1,3,none⟩ = some (.string ⟨st.toArray⟩) ∧ X.cell? ⟨w.heap.size + 1,4,none⟩ = some (.slice s1 sm1 s2) ∧ X.cell? ⟨w.heap.size + 1,5,none⟩ = some (.slice s3 sm2 s4) ∧ Below Wc.heap.size Wc X) := fun X hb => ⟨(hb.cell (p := ⟨xq,0,none⟩) (show xq < Wc.heap.size by omega)).trans p0,(hb.cell (p := ⟨xq,1,none⟩) (show xq < Wc.heap.size by omega)).trans p1,(hb.cell (p := ⟨xq,2,none⟩) (show xq < Wc.heap.size by omega)).trans p2,(hb.cell (p := ⟨xq,3,none⟩) (show xq < Wc.heap.size by omega)).trans p3,(hb.cell (p := ⟨xq,4,none⟩) (show xq < Wc.heap.size by omega)).trans p4,(hb.cell (p := ⟨xq,5,none⟩) (show xq < Wc.heap.size by omega)).trans p5,(hb.cell (p := ⟨w.heap.size,0,none⟩) (show w.heap.size < Wc.heap.size by omega)).trans q0,(hb.cell (p := ⟨w.heap.size,1,none⟩) (show w.heap.size < Wc.heap.size by omega)).trans q1,(hb.cell (p := ⟨w.heap.size,2,none⟩) (show w.heap.size < Wc.heap.size by omega)).trans q2,(hb.cell (p := ⟨w.heap.size,3,none⟩) (show w.heap.size < Wc.heap.size by omega)).trans q3,(hb.cell (p := ⟨w.heap.size,4,none⟩) (show w.heap.size < Wc.heap.size by omega)).trans q4,(hb.cell (p := ⟨w.heap.size,5,none⟩) (show w.heap.size < Wc.heap.size by omega)).trans q5,(hb.cell (p := ⟨w.heap.size + 1,0,none⟩) (show w.heap.size + 1 < Wc.heap.size by omega)).trans r0,(hb.cell (p := ⟨w.heap.size + 1,1,none⟩) (show w.heap.size + 1 < Wc.heap.size by omega)).trans r1,(hb.cell (p := ⟨w.heap.size + 1,2,none⟩) (show w.heap.size + 1 < Wc.heap.size by omega)).trans r2,(hb.cell (p := ⟨w.heap.size + 1,3,none⟩) (show w.heap.size + 1 < Wc.heap.size by omega)).trans r3,(hb.cell (p := ⟨w.heap.size + 1,4,none⟩) (show w.heap.size + 1 < Wc.heap.size by omega)).trans r4,(hb.cell (p := ⟨w.heap.size + 1,5,none⟩) (show w.heap.size + 1 < Wc.heap.size by omega)).trans r5,hb⟩
  have hS0 : (Wc.drew.cell? ⟨xq,0,none⟩ = some (.int .i64 5) ∧ Wc.drew.cell? ⟨xq,1,none⟩ = some (.bool false) ∧ Wc.drew.cell? ⟨xq,2,none⟩ = some (.int .i64 0) ∧ Wc.drew.cell? ⟨xq,3,none⟩ = some (.string ⟨#[]⟩) ∧ Wc.drew.cell? ⟨xq,4,none⟩ = some (.slice x1 3 x2) ∧ Wc.drew.cell? ⟨xq,5,none⟩ = some (.slice x3 3 x4) ∧ Wc.drew.cell? ⟨w.heap.size,0,none⟩ = some (.int .i64 jso) ∧ Wc.drew.cell? ⟨w.heap.size,1,none⟩ = some (.bool jon) ∧ Wc.drew.cell? ⟨w.heap.size,2,none⟩ = some (.int .i64 jn) ∧ Wc.drew.cell? ⟨w.heap.size,3,none⟩ = some (.string ⟨jt.toArray⟩) ∧ Wc.drew.cell? ⟨w.heap.size,4,none⟩ = some (.slice j1 jm1 j2) ∧ Wc.drew.cell? ⟨w.heap.size,5,none⟩ = some (.slice j3 jm2 j4) ∧ Wc.drew.cell? ⟨w.heap.size + 1,0,none⟩ = some (.int .i64 sso) ∧ Wc.drew.cell? ⟨w.heap.size + 1,1,none⟩ = some (.bool son) ∧ Wc.drew.cell? ⟨w.heap.size + 1,2,none⟩ = some (.int .i64 sn) ∧ Wc.drew.cell? ⟨w.heap.size + 1,3,none⟩ = some (.string ⟨st.toArray⟩) ∧ Wc.drew.cell? ⟨w.heap.size + 1,4,none⟩ = some (.slice s1 sm1 s2) ∧ Wc.drew.cell? ⟨w.heap.size + 1,5,none⟩ = some (.slice s3 sm2 s4) ∧ Below Wc.heap.size Wc Wc.drew) := hc _ (Below.refl _ _).drew
  have cT : ∀ X,(X.cell? ⟨xq,0,none⟩ = some (.int .i64 5) ∧ X.cell? ⟨xq,1,none⟩ = some (.bool false) ∧ X.cell? ⟨xq,2,none⟩ = some (.int .i64 0) ∧ X.cell? ⟨xq,3,none⟩ = some (.string ⟨#[]⟩) ∧ X.cell? ⟨xq,4,none⟩ = some (.slice x1 3 x2) ∧ X.cell? ⟨xq,5,none⟩ = some (.slice x3 3 x4) ∧ X.cell? ⟨w.heap.size,0,none⟩ = some (.int .i64 jso) ∧ X.cell? ⟨w.heap.size,1,none⟩ = some (.bool jon) ∧ X.cell? ⟨w.heap.size,2,none⟩ = some (.int .i64 jn) ∧ X.cell? ⟨w.heap.size,3,none⟩ = some (.string ⟨jt.toArray⟩) ∧ X.cell? ⟨w.heap.size,4,none⟩ = some (.slice j1 jm1 j2) ∧ X.cell? ⟨w.heap.size,5,none⟩ = some (.slice j3 jm2 j4) ∧ X.cell? ⟨w.heap.size + 1,0,none⟩ = some (.int .i64 sso) ∧ X.cell? ⟨w.heap.size + 1,1,none⟩ = some (.bool son) ∧ X.cell? ⟨w.heap.size + 1,2,none⟩ = some (.int .i64 sn) ∧ X.cell? ⟨w.heap.size + 1,3,none⟩ = some (.string ⟨st.toArray⟩) ∧ X.cell? ⟨w.heap.size + 1,4,none⟩ = some (.slice s1 sm1 s2) ∧ X.cell? ⟨w.heap.size + 1,5,none⟩ = some (.slice s3 sm2 s4) ∧ Below Wc.heap.size Wc X) → Calls Tryz.prog 12 #[.agg #[.int .i64 5,.bool false,.int .i64 0,.string ⟨#[]⟩,.slice x1 3 x2,.slice x3 3 x4]] X fun e w' => ∃ t1 t2,e = .returned (.agg #[.int .i64 5,.bool false,.int .i64 0,.string ⟨#[]⟩,.slice t1 3 t2,.slice x3 3 x4]) ∧ Hid (ValIn w' (fun _ => True) (replyV (.mk jso jon jn jt jl jks) (.mk sso son sn st sl sks)) (.slice t1 3 t2) (.slice x3 3 x4)) ∧ Hid (Below X.heap.size X w') ∧ (w'.cell? ⟨xq,0,none⟩ = some (.int .i64 5) ∧ w'.cell? ⟨xq,1,none⟩ = some (.bool false) ∧ w'.cell? ⟨xq,2,none⟩ = some (.int .i64 0) ∧ w'.cell? ⟨xq,3,none⟩ = some (.string ⟨#[]⟩) ∧ w'.cell? ⟨xq,4,none⟩ = some (.slice x1 3 x2) ∧ w'.cell? ⟨xq,5,none⟩ = some (.slice x3 3 x4) ∧ w'.cell? ⟨w.heap.size,0,none⟩ = some (.int .i64 jso) ∧ w'.cell? ⟨w.heap.size,1,none⟩ = some (.bool jon) ∧ w'.cell? ⟨w.heap.size,2,none⟩ = some (.int .i64 jn) ∧ w'.cell? ⟨w.heap.size,3,none⟩ = some (.string ⟨jt.toArray⟩) ∧ w'.cell? ⟨w.heap.size,4,none⟩ = some (.slice j1 jm1 j2) ∧ w'.cell? ⟨w.heap.size,5,none⟩ = some (.slice j3 jm2 j4) ∧ w'.cell? ⟨w.heap.size + 1,0,none⟩ = some (.int .i64 sso) ∧ w'.cell? ⟨w.heap.size + 1,1,none⟩ = some (.bool son) ∧ w'.cell? ⟨w.heap.size + 1,2,none⟩ = some (.int .i64 sn) ∧ w'.cell? ⟨w.heap.size + 1,3,none⟩ = some (.string ⟨st.toArray⟩) ∧ w'.cell? ⟨w.heap.size + 1,4,none⟩ = some (.slice s1 sm1 s2) ∧ w'.cell? ⟨w.heap.size + 1,5,none⟩ = some (.slice s3 sm2 s4) ∧ Below Wc.heap.size Wc w') := fun X hS => by
   refine (to_v2 HVXc.out (by omega) X hS.2.2.2.2.2.2.2.2.2.2.2.2.2.2.2.2.2.2).mono ?_
   rintro e w' ⟨hb,lv,rfl,hv⟩
   have hv' := hv
   obtain ⟨⟨t1,t2,rfl,_⟩,_⟩ := hv'
   exact ⟨t1,t2,rfl,Lib.hid hv,Lib.hid hb,hc _ (hS.2.2.2.2.2.2.2.2.2.2.2.2.2.2.2.2.2.2.trans (hb.mono hS.2.2.2.2.2.2.2.2.2.2.2.2.2.2.2.2.2.2.size))⟩
  have cF : ∀ X,(X.cell? ⟨xq,0,none⟩ = some (.int .i64 5) ∧ X.cell? ⟨xq,1,none⟩ = some (.bool false) ∧ X.cell? ⟨xq,2,none⟩ = some (.int .i64 0) ∧ X.cell? ⟨xq,3,none⟩ = some (.string ⟨#[]⟩) ∧ X.cell? ⟨xq,4,none⟩ = some (.slice x1 3 x2) ∧ X.cell? ⟨xq,5,none⟩ = some (.slice x3 3 x4) ∧ X.cell? ⟨w.heap.size,0,none⟩ = some (.int .i64 jso) ∧ X.cell? ⟨w.heap.size,1,none⟩ = some (.bool jon) ∧ X.cell? ⟨w.heap.size,2,none⟩ = some (.int .i64 jn) ∧ X.cell? ⟨w.heap.size,3,none⟩ = some (.string ⟨jt.toArray⟩) ∧ X.cell? ⟨w.heap.size,4,none⟩ = some (.slice j1 jm1 j2) ∧ X.cell? ⟨w.heap.size,5,none⟩ = some (.slice j3 jm2 j4) ∧ X.cell? ⟨w.heap.size + 1,0,none⟩ = some (.int .i64 sso) ∧ X.cell? ⟨w.heap.size + 1,1,none⟩ = some (.bool son) ∧ X.cell? ⟨w.heap.size + 1,2,none⟩ = some (.int .i64 sn) ∧ X.cell? ⟨w.heap.size + 1,3,none⟩ = some (.string ⟨st.toArray⟩) ∧ X.cell? ⟨w.heap.size + 1,4,none⟩ = some (.slice s1 sm1 s2) ∧ X.cell? ⟨w.heap.size + 1,5,none⟩ = some (.slice s3 sm2 s4) ∧ Below Wc.heap.size Wc X) → Calls Tryz.prog 24 #[.agg #[.int .i64 jso,.bool jon,.int .i64 jn,.string ⟨jt.toArray⟩,.slice j1 jm1 j2,.slice j3 jm2 j4],.agg #[.int .i64 sso,.bool son,.int .i64 sn,.string ⟨st.toArray⟩,.slice s1 sm1 s2,.slice s3 sm2 s4]] X fun e w' => ∃ f1 f2 f3 f4,e = .returned (.agg #[.int .i64 5,.bool false,.int .i64 0,.string ⟨#[]⟩,.slice f1 3 f2,.slice f3 3 f4]) ∧ Hid (ValIn w' (fun _ => True) (replyV (.mk jso jon jn jt jl jks) (.mk sso son sn st sl sks)) (.slice f1 3 f2) (.slice f3 3 f4)) ∧ Hid (Below X.heap.size X w') ∧ (w'.cell? ⟨xq,0,none⟩ = some (.int .i64 5) ∧ w'.cell? ⟨xq,1,none⟩ = some (.bool false) ∧ w'.cell? ⟨xq,2,none⟩ = some (.int .i64 0) ∧ w'.cell? ⟨xq,3,none⟩ = some (.string ⟨#[]⟩) ∧ w'.cell? ⟨xq,4,none⟩ = some (.slice x1 3 x2) ∧ w'.cell? ⟨xq,5,none⟩ = some (.slice x3 3 x4) ∧ w'.cell? ⟨w.heap.size,0,none⟩ = some (.int .i64 jso) ∧ w'.cell? ⟨w.heap.size,1,none⟩ = some (.bool jon) ∧ w'.cell? ⟨w.heap.size,2,none⟩ = some (.int .i64 jn) ∧ w'.cell? ⟨w.heap.size,3,none⟩ = some (.string ⟨jt.toArray⟩) ∧ w'.cell? ⟨w.heap.size,4,none⟩ = some (.slice j1 jm1 j2) ∧ w'.cell? ⟨w.heap.size,5,none⟩ = some (.slice j3 jm2 j4) ∧ w'.cell? ⟨w.heap.size + 1,0,none⟩ = some (.int .i64 sso) ∧ w'.cell? ⟨w.heap.size + 1,1,none⟩ = some (.bool son) ∧ w'.cell? ⟨w.heap.size + 1,2,none⟩ = some (.int .i64 sn) ∧ w'.cell? ⟨w.heap.size + 1,3,none⟩ = some (.string ⟨st.toArray⟩) ∧ w'.cell? ⟨w.heap.size + 1,4,none⟩ = some (.slice s1 sm1 s2) ∧ w'.cell? ⟨w.heap.size + 1,5,none⟩ = some (.slice s3 sm2 s4) ∧ Below Wc.heap.size Wc w') := fun X hS => by
   have hIX := val_below HIc.out hS.2.2.2.2.2.2.2.2.2.2.2.2.2.2.2.2.2.2
   have hRX := val_below HRc.out hS.2.2.2.2.2.2.2.2.2.2.2.2.2.2.2.2.2.2
   subst hj1 hj2 hs1 hs2
   refine (refreply_any _ _ _ _ _ _ _ X hIX hRX).mono ?_
   rintro e w' ⟨hb,lv,kv,rfl,hv⟩
   have hv' := hv
   obtain ⟨⟨f1,f2,rfl,_⟩,⟨f3,f4,rfl,_⟩⟩ := hv'
   exact ⟨f1,f2,f3,f4,rfl,Lib.hid hv,Lib.hid hb,hc _ (hS.2.2.2.2.2.2.2.2.2.2.2.2.2.2.2.2.2.2.trans (hb.mono hS.2.2.2.2.2.2.2.2.2.2.2.2.2.2.2.2.2.2.size))⟩
  have cE : ∀ X t1 t2 f1 f2 f3 f4,(X.cell? ⟨xq,0,none⟩ = some (.int .i64 5) ∧ X.cell? ⟨xq,1,none⟩ = some (.bool false) ∧ X.cell? ⟨xq,2,none⟩ = some (.int .i64 0) ∧ X.cell? ⟨xq,3,none⟩ = some (.string ⟨#[]⟩) ∧ X.cell? ⟨xq,4,none⟩ = some (.slice x1 3 x2) ∧ X.cell? ⟨xq,5,none⟩ = some (.slice x3 3 x4) ∧ X.cell? ⟨w.heap.size,0,none⟩ = some (.int .i64 jso) ∧ X.cell? ⟨w.heap.size,1,none⟩ = some (.bool jon) ∧ X.cell? ⟨w.heap.size,2,none⟩ = some (.int .i64 jn) ∧ X.cell? ⟨w.heap.size,3,none⟩ = some (.string ⟨jt.toArray⟩) ∧ X.cell? ⟨w.heap.size,4,none⟩ = some (.slice j1 jm1 j2) ∧ X.cell? ⟨w.heap.size,5,none⟩ = some (.slice j3 jm2 j4) ∧ X.cell? ⟨w.heap.size + 1,0,none⟩ = some (.int .i64 sso) ∧ X.cell? ⟨w.heap.size + 1,1,none⟩ = some (.bool son) ∧ X.cell? ⟨w.heap.size + 1,2,none⟩ = some (.int .i64 sn) ∧ X.cell? ⟨w.heap.size + 1,3,none⟩ = some (.string ⟨st.toArray⟩) ∧ X.cell? ⟨w.heap.size + 1,4,none⟩ = some (.slice s1 sm1 s2) ∧ X.cell? ⟨w.heap.size + 1,5,none⟩ = some (.slice s3 sm2 s4) ∧ Below Wc.heap.size Wc X) → ValIn X (fun _ => True) (replyV (.mk jso jon jn jt jl jks) (.mk sso son sn st sl sks)) (.slice t1 3 t2) (.slice x3 3 x4) → ValIn X (fun _ => True) (replyV (.mk jso jon jn jt jl jks) (.mk sso son sn st sl sks)) (.slice f1 3 f2) (.slice f3 3 f4) → Calls Tryz.prog 11 #[.agg #[.int .i64 5,.bool false,.int .i64 0,.string ⟨#[]⟩,.slice t1 3 t2,.slice x3 3 x4],.agg #[.int .i64 5,.bool false,.int .i64 0,.string ⟨#[]⟩,.slice f1 3 f2,.slice f3 3 f4]] X fun e w' => e = .returned (.bool true) ∧ (w'.cell? ⟨xq,0,none⟩ = some (.int .i64 5) ∧ w'.cell? ⟨xq,1,none⟩ = some (.bool false) ∧ w'.cell? ⟨xq,2,none⟩ = some (.int .i64 0) ∧ w'.cell? ⟨xq,3,none⟩ = some (.string ⟨#[]⟩) ∧ w'.cell? ⟨xq,4,none⟩ = some (.slice x1 3 x2) ∧ w'.cell? ⟨xq,5,none⟩ = some (.slice x3 3 x4) ∧ w'.cell? ⟨w.heap.size,0,none⟩ = some (.int .i64 jso) ∧ w'.cell? ⟨w.heap.size,1,none⟩ = some (.bool jon) ∧ w'.cell? ⟨w.heap.size,2,none⟩ = some (.int .i64 jn) ∧ w'.cell? ⟨w.heap.size,3,none⟩ = some (.string ⟨jt.toArray⟩) ∧ w'.cell? ⟨w.heap.size,4,none⟩ = some (.slice j1 jm1 j2) ∧ w'.cell? ⟨w.heap.size,5,none⟩ = some (.slice j3 jm2 j4) ∧ w'.cell? ⟨w.heap.size + 1,0,none⟩ = some (.int .i64 sso) ∧ w'.cell? ⟨w.heap.size + 1,1,none⟩ = some (.bool son) ∧ w'.cell? ⟨w.heap.size + 1,2,none⟩ = some (.int .i64 sn) ∧ w'.cell? ⟨w.heap.size + 1,3,none⟩ = some (.string ⟨st.toArray⟩) ∧ w'.cell? ⟨w.heap.size + 1,4,none⟩ = some (.slice s1 sm1 s2) ∧ w'.cell? ⟨w.heap.size + 1,5,none⟩ = some (.slice s3 sm2 s4) ∧ Below Wc.heap.size Wc w') := fun X t1 t2 f1 f2 f3 f4 hS v1 v2 => by
   refine (rsame_v (replyV (.mk jso jon jn jt jl jks) (.mk sso son sn st sl sks)) (replyV (.mk jso jon jn jt jl jks) (.mk sso son sn st sl sks)) _ _ _ _ _ _ X v1 v2 (by omega) (by omega)).mono ?_
   rintro e w' ⟨rfl,hb⟩
   exact ⟨by rw [sameP_self],hc _ (hS.2.2.2.2.2.2.2.2.2.2.2.2.2.2.2.2.2.2.trans (hb.mono hS.2.2.2.2.2.2.2.2.2.2.2.2.2.2.2.2.2.2.size))⟩
  clear p0 p1 p2 p3 p4 p5 q0 q1 q2 q3 q4 q5 r0 r1 r2 r3 r4 r5
  go_region_held3 (fun X => (X.cell? ⟨xq,0,none⟩ = some (.int .i64 5) ∧ X.cell? ⟨xq,1,none⟩ = some (.bool false) ∧ X.cell? ⟨xq,2,none⟩ = some (.int .i64 0) ∧ X.cell? ⟨xq,3,none⟩ = some (.string ⟨#[]⟩) ∧ X.cell? ⟨xq,4,none⟩ = some (.slice x1 3 x2) ∧ X.cell? ⟨xq,5,none⟩ = some (.slice x3 3 x4) ∧ X.cell? ⟨w.heap.size,0,none⟩ = some (.int .i64 jso) ∧ X.cell? ⟨w.heap.size,1,none⟩ = some (.bool jon) ∧ X.cell? ⟨w.heap.size,2,none⟩ = some (.int .i64 jn) ∧ X.cell? ⟨w.heap.size,3,none⟩ = some (.string ⟨jt.toArray⟩) ∧ X.cell? ⟨w.heap.size,4,none⟩ = some (.slice j1 jm1 j2) ∧ X.cell? ⟨w.heap.size,5,none⟩ = some (.slice j3 jm2 j4) ∧ X.cell? ⟨w.heap.size + 1,0,none⟩ = some (.int .i64 sso) ∧ X.cell? ⟨w.heap.size + 1,1,none⟩ = some (.bool son) ∧ X.cell? ⟨w.heap.size + 1,2,none⟩ = some (.int .i64 sn) ∧ X.cell? ⟨w.heap.size + 1,3,none⟩ = some (.string ⟨st.toArray⟩) ∧ X.cell? ⟨w.heap.size + 1,4,none⟩ = some (.slice s1 sm1 s2) ∧ X.cell? ⟨w.heap.size + 1,5,none⟩ = some (.slice s3 sm2 s4) ∧ Below Wc.heap.size Wc X)) (with_reducible (repeat (first | assumption))) (first
   | (go_at_call 12; (with_reducible refine (cT _ ?_).mono ?_); assumption; rintro e wt ⟨t1,t2,rfl,HVtt,HBtt,hStt⟩)
   | (go_at_call 24; (with_reducible refine (cF _ ?_).mono ?_); assumption; rintro e wf ⟨f1,f2,f3,f4,rfl,HVff,HBff,hSff⟩)
   | (go_at_call 11; (with_reducible refine (cE _ t1 t2 f1 f2 f3 f4 ?_ ?_ ?_).mono ?_); assumption; (exact val_below HVtt.out HBff.out); (exact HVff.out); rintro e Wd ⟨rfl,hSd⟩))
  have hbd := hSd.2.2.2.2.2.2.2.2.2.2.2.2.2.2.2.2.2.2
  have hzd : w.heap.size + 2 ≤ Wd.heap.size := by have := (hbd).size; omega
  have HJd := Lib.hid (((hbd).block w.heap.size (by omega)).trans HJc.out)
  have HSd := Lib.hid (((hbd).block (w.heap.size + 1) (by omega)).trans HSc.out)
  have HXd := Lib.hid (((hbd).block xq (Array.getElem?_eq_some_iff.1 HXc.out).1).trans HXc.out)
  have HVXd := Lib.hid (val_below HVXc.out (hbd))
  have HYd := Lib.hid (((hbd).block yq (Array.getElem?_eq_some_iff.1 HYc.out).1).trans HYc.out)
  have HVYd := Lib.hid (val_below HVYc.out (hbd))
  have HNd := Lib.hid (((hbd).block nq (Array.getElem?_eq_some_iff.1 HNc.out).1).trans HNc.out)
  have HVNd := Lib.hid (val_below HVNc.out (hbd))
  have HBd := Lib.hid (HBc.out.trans ((hbd).mono HBc.out.size))
  have HId := Lib.hid (val_below HIc.out (hbd))
  have HRd := Lib.hid (val_below HRc.out (hbd))
  clear HJc HSc HBc HIc HRc HXc HVXc HYc HVYc HNc HVNc
  clear hbd hSd hc hS0 cT cF cE hltx
  (try clear hStt HVtt HBtt)
  (try clear hSff HVff HBff)
  go_upto_region 7 with fail
  have hlty : yq < Wd.heap.size := (Array.getElem?_eq_some_iff.1 HYd.out).1
  have p0 : Wd.cell? ⟨yq,0,none⟩ = some (.int .i64 5) := by unfold World.cell?; rw [HYd.out]; rfl
  have p1 : Wd.cell? ⟨yq,1,none⟩ = some (.bool false) := by unfold World.cell?; rw [HYd.out]; rfl
  have p2 : Wd.cell? ⟨yq,2,none⟩ = some (.int .i64 0) := by unfold World.cell?; rw [HYd.out]; rfl
  have p3 : Wd.cell? ⟨yq,3,none⟩ = some (.string ⟨#[]⟩) := by unfold World.cell?; rw [HYd.out]; rfl
  have p4 : Wd.cell? ⟨yq,4,none⟩ = some (.slice y1 3 y2) := by unfold World.cell?; rw [HYd.out]; rfl
  have p5 : Wd.cell? ⟨yq,5,none⟩ = some (.slice y3 3 y4) := by unfold World.cell?; rw [HYd.out]; rfl
  have q0 : Wd.cell? ⟨w.heap.size,0,none⟩ = some (.int .i64 jso) := by unfold World.cell?; rw [HJd.out]; rfl
  have q1 : Wd.cell? ⟨w.heap.size,1,none⟩ = some (.bool jon) := by unfold World.cell?; rw [HJd.out]; rfl
  have q2 : Wd.cell? ⟨w.heap.size,2,none⟩ = some (.int .i64 jn) := by unfold World.cell?; rw [HJd.out]; rfl
  have q3 : Wd.cell? ⟨w.heap.size,3,none⟩ = some (.string ⟨jt.toArray⟩) := by unfold World.cell?; rw [HJd.out]; rfl
  have q4 : Wd.cell? ⟨w.heap.size,4,none⟩ = some (.slice j1 jm1 j2) := by unfold World.cell?; rw [HJd.out]; rfl
  have q5 : Wd.cell? ⟨w.heap.size,5,none⟩ = some (.slice j3 jm2 j4) := by unfold World.cell?; rw [HJd.out]; rfl
  have hc : ∀ X,Below Wd.heap.size Wd X → (X.cell? ⟨yq,0,none⟩ = some (.int .i64 5) ∧ X.cell? ⟨yq,1,none⟩ = some (.bool false) ∧ X.cell? ⟨yq,2,none⟩ = some (.int .i64 0) ∧ X.cell? ⟨yq,3,none⟩ = some (.string ⟨#[]⟩) ∧ X.cell? ⟨yq,4,none⟩ = some (.slice y1 3 y2) ∧ X.cell? ⟨yq,5,none⟩ = some (.slice y3 3 y4) ∧ X.cell? ⟨w.heap.size,0,none⟩ = some (.int .i64 jso) ∧ X.cell? ⟨w.heap.size,1,none⟩ = some (.bool jon) ∧ X.cell? ⟨w.heap.size,2,none⟩ = some (.int .i64 jn) ∧ X.cell? ⟨w.heap.size,3,none⟩ = some (.string ⟨jt.toArray⟩) ∧ X.cell? ⟨w.heap.size,4,none⟩ = some (.slice j1 jm1 j2) ∧ X.cell? ⟨w.heap.size,5,none⟩ = some (.slice j3 jm2 j4) ∧ Below Wd.heap.size Wd X) := fun X hb => ⟨(hb.cell (p := ⟨yq,0,none⟩) (show yq < Wd.heap.size by omega)).trans p0,(hb.cell (p := ⟨yq,1,none⟩) (show yq < Wd.heap.size by omega)).trans p1,(hb.cell (p := ⟨yq,2,none⟩) (show yq < Wd.heap.size by omega)).trans p2,(hb.cell (p := ⟨yq,3,none⟩) (show yq < Wd.heap.size by omega)).trans p3,(hb.cell (p := ⟨yq,4,none⟩) (show yq < Wd.heap.size by omega)).trans p4,(hb.cell (p := ⟨yq,5,none⟩) (show yq < Wd.heap.size by omega)).trans p5,(hb.cell (p := ⟨w.heap.size,0,none⟩) (show w.heap.size < Wd.heap.size by omega)).trans q0,(hb.cell (p := ⟨w.heap.size,1,none⟩) (show w.heap.size < Wd.heap.size by omega)).trans q1,(hb.cell (p := ⟨w.heap.size,2,none⟩) (show w.heap.size < Wd.heap.size by omega)).trans q2,(hb.cell (p := ⟨w.heap.size,3,none⟩) (show w.heap.size < Wd.heap.size by omega)).trans q3,(hb.cell (p := ⟨w.heap.size,4,none⟩) (show w.heap.size < Wd.heap.size by omega)).trans q4,(hb.cell (p := ⟨w.heap.size,5,none⟩) (show w.heap.size < Wd.heap.size by omega)).trans q5,hb⟩
  have hS0 : (Wd.drew.cell? ⟨yq,0,none⟩ = some (.int .i64 5) ∧ Wd.drew.cell? ⟨yq,1,none⟩ = some (.bool false) ∧ Wd.drew.cell? ⟨yq,2,none⟩ = some (.int .i64 0) ∧ Wd.drew.cell? ⟨yq,3,none⟩ = some (.string ⟨#[]⟩) ∧ Wd.drew.cell? ⟨yq,4,none⟩ = some (.slice y1 3 y2) ∧ Wd.drew.cell? ⟨yq,5,none⟩ = some (.slice y3 3 y4) ∧ Wd.drew.cell? ⟨w.heap.size,0,none⟩ = some (.int .i64 jso) ∧ Wd.drew.cell? ⟨w.heap.size,1,none⟩ = some (.bool jon) ∧ Wd.drew.cell? ⟨w.heap.size,2,none⟩ = some (.int .i64 jn) ∧ Wd.drew.cell? ⟨w.heap.size,3,none⟩ = some (.string ⟨jt.toArray⟩) ∧ Wd.drew.cell? ⟨w.heap.size,4,none⟩ = some (.slice j1 jm1 j2) ∧ Wd.drew.cell? ⟨w.heap.size,5,none⟩ = some (.slice j3 jm2 j4) ∧ Below Wd.heap.size Wd Wd.drew) := hc _ (Below.refl _ _).drew
  have cT : ∀ X,(X.cell? ⟨yq,0,none⟩ = some (.int .i64 5) ∧ X.cell? ⟨yq,1,none⟩ = some (.bool false) ∧ X.cell? ⟨yq,2,none⟩ = some (.int .i64 0) ∧ X.cell? ⟨yq,3,none⟩ = some (.string ⟨#[]⟩) ∧ X.cell? ⟨yq,4,none⟩ = some (.slice y1 3 y2) ∧ X.cell? ⟨yq,5,none⟩ = some (.slice y3 3 y4) ∧ X.cell? ⟨w.heap.size,0,none⟩ = some (.int .i64 jso) ∧ X.cell? ⟨w.heap.size,1,none⟩ = some (.bool jon) ∧ X.cell? ⟨w.heap.size,2,none⟩ = some (.int .i64 jn) ∧ X.cell? ⟨w.heap.size,3,none⟩ = some (.string ⟨jt.toArray⟩) ∧ X.cell? ⟨w.heap.size,4,none⟩ = some (.slice j1 jm1 j2) ∧ X.cell? ⟨w.heap.size,5,none⟩ = some (.slice j3 jm2 j4) ∧ Below Wd.heap.size Wd X) → Calls Tryz.prog 12 #[.agg #[.int .i64 5,.bool false,.int .i64 0,.string ⟨#[]⟩,.slice y1 3 y2,.slice y3 3 y4]] X fun e w' => ∃ t1 t2,e = .returned (.agg #[.int .i64 5,.bool false,.int .i64 0,.string ⟨#[]⟩,.slice t1 3 t2,.slice y3 3 y4]) ∧ Hid (ValIn w' (fun _ => True) (failV (.mk jso jon jn jt jl jks) (codeN er) (nameC (codeN er))) (.slice t1 3 t2) (.slice y3 3 y4)) ∧ Hid (Below X.heap.size X w') ∧ (w'.cell? ⟨yq,0,none⟩ = some (.int .i64 5) ∧ w'.cell? ⟨yq,1,none⟩ = some (.bool false) ∧ w'.cell? ⟨yq,2,none⟩ = some (.int .i64 0) ∧ w'.cell? ⟨yq,3,none⟩ = some (.string ⟨#[]⟩) ∧ w'.cell? ⟨yq,4,none⟩ = some (.slice y1 3 y2) ∧ w'.cell? ⟨yq,5,none⟩ = some (.slice y3 3 y4) ∧ w'.cell? ⟨w.heap.size,0,none⟩ = some (.int .i64 jso) ∧ w'.cell? ⟨w.heap.size,1,none⟩ = some (.bool jon) ∧ w'.cell? ⟨w.heap.size,2,none⟩ = some (.int .i64 jn) ∧ w'.cell? ⟨w.heap.size,3,none⟩ = some (.string ⟨jt.toArray⟩) ∧ w'.cell? ⟨w.heap.size,4,none⟩ = some (.slice j1 jm1 j2) ∧ w'.cell? ⟨w.heap.size,5,none⟩ = some (.slice j3 jm2 j4) ∧ Below Wd.heap.size Wd w') := fun X hS => by
   refine (to_v2 HVYd.out (by omega) X hS.2.2.2.2.2.2.2.2.2.2.2.2).mono ?_
   rintro e w' ⟨hb,lv,rfl,hv⟩
   have hv' := hv
   obtain ⟨⟨t1,t2,rfl,_⟩,_⟩ := hv'
   exact ⟨t1,t2,rfl,Lib.hid hv,Lib.hid hb,hc _ (hS.2.2.2.2.2.2.2.2.2.2.2.2.trans (hb.mono hS.2.2.2.2.2.2.2.2.2.2.2.2.size))⟩
  have cF : ∀ X,(X.cell? ⟨yq,0,none⟩ = some (.int .i64 5) ∧ X.cell? ⟨yq,1,none⟩ = some (.bool false) ∧ X.cell? ⟨yq,2,none⟩ = some (.int .i64 0) ∧ X.cell? ⟨yq,3,none⟩ = some (.string ⟨#[]⟩) ∧ X.cell? ⟨yq,4,none⟩ = some (.slice y1 3 y2) ∧ X.cell? ⟨yq,5,none⟩ = some (.slice y3 3 y4) ∧ X.cell? ⟨w.heap.size,0,none⟩ = some (.int .i64 jso) ∧ X.cell? ⟨w.heap.size,1,none⟩ = some (.bool jon) ∧ X.cell? ⟨w.heap.size,2,none⟩ = some (.int .i64 jn) ∧ X.cell? ⟨w.heap.size,3,none⟩ = some (.string ⟨jt.toArray⟩) ∧ X.cell? ⟨w.heap.size,4,none⟩ = some (.slice j1 jm1 j2) ∧ X.cell? ⟨w.heap.size,5,none⟩ = some (.slice j3 jm2 j4) ∧ Below Wd.heap.size Wd X) → Calls Tryz.prog 25 #[.agg #[.int .i64 jso,.bool jon,.int .i64 jn,.string ⟨jt.toArray⟩,.slice j1 jm1 j2,.slice j3 jm2 j4],.int .i64 er] X fun e w' => ∃ f1 f2 f3 f4,e = .returned (.agg #[.int .i64 5,.bool false,.int .i64 0,.string ⟨#[]⟩,.slice f1 3 f2,.slice f3 3 f4]) ∧ Hid (ValIn w' (fun _ => True) (failV (.mk jso jon jn jt jl jks) (codeN er) (nameC (codeN er))) (.slice f1 3 f2) (.slice f3 3 f4)) ∧ Hid (Below X.heap.size X w') ∧ (w'.cell? ⟨yq,0,none⟩ = some (.int .i64 5) ∧ w'.cell? ⟨yq,1,none⟩ = some (.bool false) ∧ w'.cell? ⟨yq,2,none⟩ = some (.int .i64 0) ∧ w'.cell? ⟨yq,3,none⟩ = some (.string ⟨#[]⟩) ∧ w'.cell? ⟨yq,4,none⟩ = some (.slice y1 3 y2) ∧ w'.cell? ⟨yq,5,none⟩ = some (.slice y3 3 y4) ∧ w'.cell? ⟨w.heap.size,0,none⟩ = some (.int .i64 jso) ∧ w'.cell? ⟨w.heap.size,1,none⟩ = some (.bool jon) ∧ w'.cell? ⟨w.heap.size,2,none⟩ = some (.int .i64 jn) ∧ w'.cell? ⟨w.heap.size,3,none⟩ = some (.string ⟨jt.toArray⟩) ∧ w'.cell? ⟨w.heap.size,4,none⟩ = some (.slice j1 jm1 j2) ∧ w'.cell? ⟨w.heap.size,5,none⟩ = some (.slice j3 jm2 j4) ∧ Below Wd.heap.size Wd w') := fun X hS => by
   have hIX := val_below HId.out hS.2.2.2.2.2.2.2.2.2.2.2.2
   have hRX := val_below HRd.out hS.2.2.2.2.2.2.2.2.2.2.2.2
   subst hj1 hj2 hs1 hs2
   refine (reffail_any _ er _ _ _ X hIX).mono ?_
   rintro e w' ⟨hb,lv,kv,rfl,hv⟩
   have hv' := hv
   obtain ⟨⟨f1,f2,rfl,_⟩,⟨f3,f4,rfl,_⟩⟩ := hv'
   exact ⟨f1,f2,f3,f4,rfl,Lib.hid hv,Lib.hid hb,hc _ (hS.2.2.2.2.2.2.2.2.2.2.2.2.trans (hb.mono hS.2.2.2.2.2.2.2.2.2.2.2.2.size))⟩
  have cE : ∀ X t1 t2 f1 f2 f3 f4,(X.cell? ⟨yq,0,none⟩ = some (.int .i64 5) ∧ X.cell? ⟨yq,1,none⟩ = some (.bool false) ∧ X.cell? ⟨yq,2,none⟩ = some (.int .i64 0) ∧ X.cell? ⟨yq,3,none⟩ = some (.string ⟨#[]⟩) ∧ X.cell? ⟨yq,4,none⟩ = some (.slice y1 3 y2) ∧ X.cell? ⟨yq,5,none⟩ = some (.slice y3 3 y4) ∧ X.cell? ⟨w.heap.size,0,none⟩ = some (.int .i64 jso) ∧ X.cell? ⟨w.heap.size,1,none⟩ = some (.bool jon) ∧ X.cell? ⟨w.heap.size,2,none⟩ = some (.int .i64 jn) ∧ X.cell? ⟨w.heap.size,3,none⟩ = some (.string ⟨jt.toArray⟩) ∧ X.cell? ⟨w.heap.size,4,none⟩ = some (.slice j1 jm1 j2) ∧ X.cell? ⟨w.heap.size,5,none⟩ = some (.slice j3 jm2 j4) ∧ Below Wd.heap.size Wd X) → ValIn X (fun _ => True) (failV (.mk jso jon jn jt jl jks) (codeN er) (nameC (codeN er))) (.slice t1 3 t2) (.slice y3 3 y4) → ValIn X (fun _ => True) (failV (.mk jso jon jn jt jl jks) (codeN er) (nameC (codeN er))) (.slice f1 3 f2) (.slice f3 3 f4) → Calls Tryz.prog 11 #[.agg #[.int .i64 5,.bool false,.int .i64 0,.string ⟨#[]⟩,.slice t1 3 t2,.slice y3 3 y4],.agg #[.int .i64 5,.bool false,.int .i64 0,.string ⟨#[]⟩,.slice f1 3 f2,.slice f3 3 f4]] X fun e w' => e = .returned (.bool true) ∧ (w'.cell? ⟨yq,0,none⟩ = some (.int .i64 5) ∧ w'.cell? ⟨yq,1,none⟩ = some (.bool false) ∧ w'.cell? ⟨yq,2,none⟩ = some (.int .i64 0) ∧ w'.cell? ⟨yq,3,none⟩ = some (.string ⟨#[]⟩) ∧ w'.cell? ⟨yq,4,none⟩ = some (.slice y1 3 y2) ∧ w'.cell? ⟨yq,5,none⟩ = some (.slice y3 3 y4) ∧ w'.cell? ⟨w.heap.size,0,none⟩ = some (.int .i64 jso) ∧ w'.cell? ⟨w.heap.size,1,none⟩ = some (.bool jon) ∧ w'.cell? ⟨w.heap.size,2,none⟩ = some (.int .i64 jn) ∧ w'.cell? ⟨w.heap.size,3,none⟩ = some (.string ⟨jt.toArray⟩) ∧ w'.cell? ⟨w.heap.size,4,none⟩ = some (.slice j1 jm1 j2) ∧ w'.cell? ⟨w.heap.size,5,none⟩ = some (.slice j3 jm2 j4) ∧ Below Wd.heap.size Wd w') := fun X t1 t2 f1 f2 f3 f4 hS v1 v2 => by
   refine (rsame_v (failV (.mk jso jon jn jt jl jks) (codeN er) (nameC (codeN er))) (failV (.mk jso jon jn jt jl jks) (codeN er) (nameC (codeN er))) _ _ _ _ _ _ X v1 v2 (by omega) (by omega)).mono ?_
   rintro e w' ⟨rfl,hb⟩
   exact ⟨by rw [sameP_self],hc _ (hS.2.2.2.2.2.2.2.2.2.2.2.2.trans (hb.mono hS.2.2.2.2.2.2.2.2.2.2.2.2.size))⟩
  clear p0 p1 p2 p3 p4 p5 q0 q1 q2 q3 q4 q5
  go_region_held3 (fun X => (X.cell? ⟨yq,0,none⟩ = some (.int .i64 5) ∧ X.cell? ⟨yq,1,none⟩ = some (.bool false) ∧ X.cell? ⟨yq,2,none⟩ = some (.int .i64 0) ∧ X.cell? ⟨yq,3,none⟩ = some (.string ⟨#[]⟩) ∧ X.cell? ⟨yq,4,none⟩ = some (.slice y1 3 y2) ∧ X.cell? ⟨yq,5,none⟩ = some (.slice y3 3 y4) ∧ X.cell? ⟨w.heap.size,0,none⟩ = some (.int .i64 jso) ∧ X.cell? ⟨w.heap.size,1,none⟩ = some (.bool jon) ∧ X.cell? ⟨w.heap.size,2,none⟩ = some (.int .i64 jn) ∧ X.cell? ⟨w.heap.size,3,none⟩ = some (.string ⟨jt.toArray⟩) ∧ X.cell? ⟨w.heap.size,4,none⟩ = some (.slice j1 jm1 j2) ∧ X.cell? ⟨w.heap.size,5,none⟩ = some (.slice j3 jm2 j4) ∧ Below Wd.heap.size Wd X)) (with_reducible (repeat (first | assumption))) (first
   | (go_at_call 12; (with_reducible refine (cT _ ?_).mono ?_); assumption; rintro e wt ⟨t1,t2,rfl,HVtt,HBtt,hStt⟩)
   | (go_at_call 25; (with_reducible refine (cF _ ?_).mono ?_); assumption; rintro e wf ⟨f1,f2,f3,f4,rfl,HVff,HBff,hSff⟩)
   | (go_at_call 11; (with_reducible refine (cE _ t1 t2 f1 f2 f3 f4 ?_ ?_ ?_).mono ?_); assumption; (exact val_below HVtt.out HBff.out); (exact HVff.out); rintro e We ⟨rfl,hSe⟩))
  have hbe := hSe.2.2.2.2.2.2.2.2.2.2.2.2
  have hze : w.heap.size + 2 ≤ We.heap.size := by have := (hbe).size; omega
  have HJe := Lib.hid (((hbe).block w.heap.size (by omega)).trans HJd.out)
  have HSe := Lib.hid (((hbe).block (w.heap.size + 1) (by omega)).trans HSd.out)
  have HXe := Lib.hid (((hbe).block xq (Array.getElem?_eq_some_iff.1 HXd.out).1).trans HXd.out)
  have HVXe := Lib.hid (val_below HVXd.out (hbe))
  have HYe := Lib.hid (((hbe).block yq (Array.getElem?_eq_some_iff.1 HYd.out).1).trans HYd.out)
  have HVYe := Lib.hid (val_below HVYd.out (hbe))
  have HNe := Lib.hid (((hbe).block nq (Array.getElem?_eq_some_iff.1 HNd.out).1).trans HNd.out)
  have HVNe := Lib.hid (val_below HVNd.out (hbe))
  have HBe := Lib.hid (HBd.out.trans ((hbe).mono HBd.out.size))
  have HIe := Lib.hid (val_below HId.out (hbe))
  have HRe := Lib.hid (val_below HRd.out (hbe))
  clear HJd HSd HBd HId HRd HXd HVXd HYd HVYd HNd HVNd
  clear hbe hSe hc hS0 cT cF cE hlty
  (try clear hStt HVtt HBtt)
  (try clear hSff HVff HBff)
  go_upto_region 8 with fail
  have hltn : nq < We.heap.size := (Array.getElem?_eq_some_iff.1 HNe.out).1
  have p0 : We.cell? ⟨nq,0,none⟩ = some (.int .i64 5) := by unfold World.cell?; rw [HNe.out]; rfl
  have p1 : We.cell? ⟨nq,1,none⟩ = some (.bool false) := by unfold World.cell?; rw [HNe.out]; rfl
  have p2 : We.cell? ⟨nq,2,none⟩ = some (.int .i64 0) := by unfold World.cell?; rw [HNe.out]; rfl
  have p3 : We.cell? ⟨nq,3,none⟩ = some (.string ⟨#[]⟩) := by unfold World.cell?; rw [HNe.out]; rfl
  have p4 : We.cell? ⟨nq,4,none⟩ = some (.slice n1 3 n2) := by unfold World.cell?; rw [HNe.out]; rfl
  have p5 : We.cell? ⟨nq,5,none⟩ = some (.slice n3 3 n4) := by unfold World.cell?; rw [HNe.out]; rfl
  have r0 : We.cell? ⟨w.heap.size + 1,0,none⟩ = some (.int .i64 sso) := by unfold World.cell?; rw [HSe.out]; rfl
  have r1 : We.cell? ⟨w.heap.size + 1,1,none⟩ = some (.bool son) := by unfold World.cell?; rw [HSe.out]; rfl
  have r2 : We.cell? ⟨w.heap.size + 1,2,none⟩ = some (.int .i64 sn) := by unfold World.cell?; rw [HSe.out]; rfl
  have r3 : We.cell? ⟨w.heap.size + 1,3,none⟩ = some (.string ⟨st.toArray⟩) := by unfold World.cell?; rw [HSe.out]; rfl
  have r4 : We.cell? ⟨w.heap.size + 1,4,none⟩ = some (.slice s1 sm1 s2) := by unfold World.cell?; rw [HSe.out]; rfl
  have r5 : We.cell? ⟨w.heap.size + 1,5,none⟩ = some (.slice s3 sm2 s4) := by unfold World.cell?; rw [HSe.out]; rfl
  have hc : ∀ X,Below We.heap.size We X → (X.cell? ⟨nq,0,none⟩ = some (.int .i64 5) ∧ X.cell? ⟨nq,1,none⟩ = some (.bool false) ∧ X.cell? ⟨nq,2,none⟩ = some (.int .i64 0) ∧ X.cell? ⟨nq,3,none⟩ = some (.string ⟨#[]⟩) ∧ X.cell? ⟨nq,4,none⟩ = some (.slice n1 3 n2) ∧ X.cell? ⟨nq,5,none⟩ = some (.slice n3 3 n4) ∧ X.cell? ⟨w.heap.size + 1,0,none⟩ = some (.int .i64 sso) ∧ X.cell? ⟨w.heap.size + 1,1,none⟩ = some (.bool son) ∧ X.cell? ⟨w.heap.size + 1,2,none⟩ = some (.int .i64 sn) ∧ X.cell? ⟨w.heap.size + 1,3,none⟩ = some (.string ⟨st.toArray⟩) ∧ X.cell? ⟨w.heap.size + 1,4,none⟩ = some (.slice s1 sm1 s2) ∧ X.cell? ⟨w.heap.size + 1,5,none⟩ = some (.slice s3 sm2 s4) ∧ Below We.heap.size We X) := fun X hb => ⟨(hb.cell (p := ⟨nq,0,none⟩) (show nq < We.heap.size by omega)).trans p0,(hb.cell (p := ⟨nq,1,none⟩) (show nq < We.heap.size by omega)).trans p1,(hb.cell (p := ⟨nq,2,none⟩) (show nq < We.heap.size by omega)).trans p2,(hb.cell (p := ⟨nq,3,none⟩) (show nq < We.heap.size by omega)).trans p3,(hb.cell (p := ⟨nq,4,none⟩) (show nq < We.heap.size by omega)).trans p4,(hb.cell (p := ⟨nq,5,none⟩) (show nq < We.heap.size by omega)).trans p5,(hb.cell (p := ⟨w.heap.size + 1,0,none⟩) (show w.heap.size + 1 < We.heap.size by omega)).trans r0,(hb.cell (p := ⟨w.heap.size + 1,1,none⟩) (show w.heap.size + 1 < We.heap.size by omega)).trans r1,(hb.cell (p := ⟨w.heap.size + 1,2,none⟩) (show w.heap.size + 1 < We.heap.size by omega)).trans r2,(hb.cell (p := ⟨w.heap.size + 1,3,none⟩) (show w.heap.size + 1 < We.heap.size by omega)).trans r3,(hb.cell (p := ⟨w.heap.size + 1,4,none⟩) (show w.heap.size + 1 < We.heap.size by omega)).trans r4,(hb.cell (p := ⟨w.heap.size + 1,5,none⟩) (show w.heap.size + 1 < We.heap.size by omega)).trans r5,hb⟩
  have hS0 : (We.drew.cell? ⟨nq,0,none⟩ = some (.int .i64 5) ∧ We.drew.cell? ⟨nq,1,none⟩ = some (.bool false) ∧ We.drew.cell? ⟨nq,2,none⟩ = some (.int .i64 0) ∧ We.drew.cell? ⟨nq,3,none⟩ = some (.string ⟨#[]⟩) ∧ We.drew.cell? ⟨nq,4,none⟩ = some (.slice n1 3 n2) ∧ We.drew.cell? ⟨nq,5,none⟩ = some (.slice n3 3 n4) ∧ We.drew.cell? ⟨w.heap.size + 1,0,none⟩ = some (.int .i64 sso) ∧ We.drew.cell? ⟨w.heap.size + 1,1,none⟩ = some (.bool son) ∧ We.drew.cell? ⟨w.heap.size + 1,2,none⟩ = some (.int .i64 sn) ∧ We.drew.cell? ⟨w.heap.size + 1,3,none⟩ = some (.string ⟨st.toArray⟩) ∧ We.drew.cell? ⟨w.heap.size + 1,4,none⟩ = some (.slice s1 sm1 s2) ∧ We.drew.cell? ⟨w.heap.size + 1,5,none⟩ = some (.slice s3 sm2 s4) ∧ Below We.heap.size We We.drew) := hc _ (Below.refl _ _).drew
  have cT : ∀ X,(X.cell? ⟨nq,0,none⟩ = some (.int .i64 5) ∧ X.cell? ⟨nq,1,none⟩ = some (.bool false) ∧ X.cell? ⟨nq,2,none⟩ = some (.int .i64 0) ∧ X.cell? ⟨nq,3,none⟩ = some (.string ⟨#[]⟩) ∧ X.cell? ⟨nq,4,none⟩ = some (.slice n1 3 n2) ∧ X.cell? ⟨nq,5,none⟩ = some (.slice n3 3 n4) ∧ X.cell? ⟨w.heap.size + 1,0,none⟩ = some (.int .i64 sso) ∧ X.cell? ⟨w.heap.size + 1,1,none⟩ = some (.bool son) ∧ X.cell? ⟨w.heap.size + 1,2,none⟩ = some (.int .i64 sn) ∧ X.cell? ⟨w.heap.size + 1,3,none⟩ = some (.string ⟨st.toArray⟩) ∧ X.cell? ⟨w.heap.size + 1,4,none⟩ = some (.slice s1 sm1 s2) ∧ X.cell? ⟨w.heap.size + 1,5,none⟩ = some (.slice s3 sm2 s4) ∧ Below We.heap.size We X) → Calls Tryz.prog 12 #[.agg #[.int .i64 5,.bool false,.int .i64 0,.string ⟨#[]⟩,.slice n1 3 n2,.slice n3 3 n4]] X fun e w' => ∃ t1 t2,e = .returned (.agg #[.int .i64 5,.bool false,.int .i64 0,.string ⟨#[]⟩,.slice t1 3 t2,.slice n3 3 n4]) ∧ Hid (ValIn w' (fun _ => True) (noteV bPublish (.mk sso son sn st sl sks)) (.slice t1 3 t2) (.slice n3 3 n4)) ∧ Hid (Below X.heap.size X w') ∧ (w'.cell? ⟨nq,0,none⟩ = some (.int .i64 5) ∧ w'.cell? ⟨nq,1,none⟩ = some (.bool false) ∧ w'.cell? ⟨nq,2,none⟩ = some (.int .i64 0) ∧ w'.cell? ⟨nq,3,none⟩ = some (.string ⟨#[]⟩) ∧ w'.cell? ⟨nq,4,none⟩ = some (.slice n1 3 n2) ∧ w'.cell? ⟨nq,5,none⟩ = some (.slice n3 3 n4) ∧ w'.cell? ⟨w.heap.size + 1,0,none⟩ = some (.int .i64 sso) ∧ w'.cell? ⟨w.heap.size + 1,1,none⟩ = some (.bool son) ∧ w'.cell? ⟨w.heap.size + 1,2,none⟩ = some (.int .i64 sn) ∧ w'.cell? ⟨w.heap.size + 1,3,none⟩ = some (.string ⟨st.toArray⟩) ∧ w'.cell? ⟨w.heap.size + 1,4,none⟩ = some (.slice s1 sm1 s2) ∧ w'.cell? ⟨w.heap.size + 1,5,none⟩ = some (.slice s3 sm2 s4) ∧ Below We.heap.size We w') := fun X hS => by
   refine (to_v2 HVNe.out (by omega) X hS.2.2.2.2.2.2.2.2.2.2.2.2).mono ?_
   rintro e w' ⟨hb,lv,rfl,hv⟩
   have hv' := hv
   obtain ⟨⟨t1,t2,rfl,_⟩,_⟩ := hv'
   exact ⟨t1,t2,rfl,Lib.hid hv,Lib.hid hb,hc _ (hS.2.2.2.2.2.2.2.2.2.2.2.2.trans (hb.mono hS.2.2.2.2.2.2.2.2.2.2.2.2.size))⟩
  have cF : ∀ X,(X.cell? ⟨nq,0,none⟩ = some (.int .i64 5) ∧ X.cell? ⟨nq,1,none⟩ = some (.bool false) ∧ X.cell? ⟨nq,2,none⟩ = some (.int .i64 0) ∧ X.cell? ⟨nq,3,none⟩ = some (.string ⟨#[]⟩) ∧ X.cell? ⟨nq,4,none⟩ = some (.slice n1 3 n2) ∧ X.cell? ⟨nq,5,none⟩ = some (.slice n3 3 n4) ∧ X.cell? ⟨w.heap.size + 1,0,none⟩ = some (.int .i64 sso) ∧ X.cell? ⟨w.heap.size + 1,1,none⟩ = some (.bool son) ∧ X.cell? ⟨w.heap.size + 1,2,none⟩ = some (.int .i64 sn) ∧ X.cell? ⟨w.heap.size + 1,3,none⟩ = some (.string ⟨st.toArray⟩) ∧ X.cell? ⟨w.heap.size + 1,4,none⟩ = some (.slice s1 sm1 s2) ∧ X.cell? ⟨w.heap.size + 1,5,none⟩ = some (.slice s3 sm2 s4) ∧ Below We.heap.size We X) → Calls Tryz.prog 26 #[.string ⟨#[116,101,120,116,68,111,99,117,109,101,110,116,47,112,117,98,108,105,115,104,68,105,97,103,110,111,115,116,105,99,115]⟩,.agg #[.int .i64 sso,.bool son,.int .i64 sn,.string ⟨st.toArray⟩,.slice s1 sm1 s2,.slice s3 sm2 s4]] X fun e w' => ∃ f1 f2 f3 f4,e = .returned (.agg #[.int .i64 5,.bool false,.int .i64 0,.string ⟨#[]⟩,.slice f1 3 f2,.slice f3 3 f4]) ∧ Hid (ValIn w' (fun _ => True) (noteV bPublish (.mk sso son sn st sl sks)) (.slice f1 3 f2) (.slice f3 3 f4)) ∧ Hid (Below X.heap.size X w') ∧ (w'.cell? ⟨nq,0,none⟩ = some (.int .i64 5) ∧ w'.cell? ⟨nq,1,none⟩ = some (.bool false) ∧ w'.cell? ⟨nq,2,none⟩ = some (.int .i64 0) ∧ w'.cell? ⟨nq,3,none⟩ = some (.string ⟨#[]⟩) ∧ w'.cell? ⟨nq,4,none⟩ = some (.slice n1 3 n2) ∧ w'.cell? ⟨nq,5,none⟩ = some (.slice n3 3 n4) ∧ w'.cell? ⟨w.heap.size + 1,0,none⟩ = some (.int .i64 sso) ∧ w'.cell? ⟨w.heap.size + 1,1,none⟩ = some (.bool son) ∧ w'.cell? ⟨w.heap.size + 1,2,none⟩ = some (.int .i64 sn) ∧ w'.cell? ⟨w.heap.size + 1,3,none⟩ = some (.string ⟨st.toArray⟩) ∧ w'.cell? ⟨w.heap.size + 1,4,none⟩ = some (.slice s1 sm1 s2) ∧ w'.cell? ⟨w.heap.size + 1,5,none⟩ = some (.slice s3 sm2 s4) ∧ Below We.heap.size We w') := fun X hS => by
   have hIX := val_below HIe.out hS.2.2.2.2.2.2.2.2.2.2.2.2
   have hRX := val_below HRe.out hS.2.2.2.2.2.2.2.2.2.2.2.2
   subst hj1 hj2 hs1 hs2
   refine (refnote_any bPublish _ _ _ _ X hRX).mono ?_
   rintro e w' ⟨hb,lv,kv,rfl,hv⟩
   have hv' := hv
   obtain ⟨⟨f1,f2,rfl,_⟩,⟨f3,f4,rfl,_⟩⟩ := hv'
   exact ⟨f1,f2,f3,f4,rfl,Lib.hid hv,Lib.hid hb,hc _ (hS.2.2.2.2.2.2.2.2.2.2.2.2.trans (hb.mono hS.2.2.2.2.2.2.2.2.2.2.2.2.size))⟩
  have cE : ∀ X t1 t2 f1 f2 f3 f4,(X.cell? ⟨nq,0,none⟩ = some (.int .i64 5) ∧ X.cell? ⟨nq,1,none⟩ = some (.bool false) ∧ X.cell? ⟨nq,2,none⟩ = some (.int .i64 0) ∧ X.cell? ⟨nq,3,none⟩ = some (.string ⟨#[]⟩) ∧ X.cell? ⟨nq,4,none⟩ = some (.slice n1 3 n2) ∧ X.cell? ⟨nq,5,none⟩ = some (.slice n3 3 n4) ∧ X.cell? ⟨w.heap.size + 1,0,none⟩ = some (.int .i64 sso) ∧ X.cell? ⟨w.heap.size + 1,1,none⟩ = some (.bool son) ∧ X.cell? ⟨w.heap.size + 1,2,none⟩ = some (.int .i64 sn) ∧ X.cell? ⟨w.heap.size + 1,3,none⟩ = some (.string ⟨st.toArray⟩) ∧ X.cell? ⟨w.heap.size + 1,4,none⟩ = some (.slice s1 sm1 s2) ∧ X.cell? ⟨w.heap.size + 1,5,none⟩ = some (.slice s3 sm2 s4) ∧ Below We.heap.size We X) → ValIn X (fun _ => True) (noteV bPublish (.mk sso son sn st sl sks)) (.slice t1 3 t2) (.slice n3 3 n4) → ValIn X (fun _ => True) (noteV bPublish (.mk sso son sn st sl sks)) (.slice f1 3 f2) (.slice f3 3 f4) → Calls Tryz.prog 11 #[.agg #[.int .i64 5,.bool false,.int .i64 0,.string ⟨#[]⟩,.slice t1 3 t2,.slice n3 3 n4],.agg #[.int .i64 5,.bool false,.int .i64 0,.string ⟨#[]⟩,.slice f1 3 f2,.slice f3 3 f4]] X fun e w' => e = .returned (.bool true) ∧ (w'.cell? ⟨nq,0,none⟩ = some (.int .i64 5) ∧ w'.cell? ⟨nq,1,none⟩ = some (.bool false) ∧ w'.cell? ⟨nq,2,none⟩ = some (.int .i64 0) ∧ w'.cell? ⟨nq,3,none⟩ = some (.string ⟨#[]⟩) ∧ w'.cell? ⟨nq,4,none⟩ = some (.slice n1 3 n2) ∧ w'.cell? ⟨nq,5,none⟩ = some (.slice n3 3 n4) ∧ w'.cell? ⟨w.heap.size + 1,0,none⟩ = some (.int .i64 sso) ∧ w'.cell? ⟨w.heap.size + 1,1,none⟩ = some (.bool son) ∧ w'.cell? ⟨w.heap.size + 1,2,none⟩ = some (.int .i64 sn) ∧ w'.cell? ⟨w.heap.size + 1,3,none⟩ = some (.string ⟨st.toArray⟩) ∧ w'.cell? ⟨w.heap.size + 1,4,none⟩ = some (.slice s1 sm1 s2) ∧ w'.cell? ⟨w.heap.size + 1,5,none⟩ = some (.slice s3 sm2 s4) ∧ Below We.heap.size We w') := fun X t1 t2 f1 f2 f3 f4 hS v1 v2 => by
   refine (rsame_v (noteV bPublish (.mk sso son sn st sl sks)) (noteV bPublish (.mk sso son sn st sl sks)) _ _ _ _ _ _ X v1 v2 (by omega) (by omega)).mono ?_
   rintro e w' ⟨rfl,hb⟩
   exact ⟨by rw [sameP_self],hc _ (hS.2.2.2.2.2.2.2.2.2.2.2.2.trans (hb.mono hS.2.2.2.2.2.2.2.2.2.2.2.2.size))⟩
  clear p0 p1 p2 p3 p4 p5 r0 r1 r2 r3 r4 r5
  go_region_held3 (fun X => (X.cell? ⟨nq,0,none⟩ = some (.int .i64 5) ∧ X.cell? ⟨nq,1,none⟩ = some (.bool false) ∧ X.cell? ⟨nq,2,none⟩ = some (.int .i64 0) ∧ X.cell? ⟨nq,3,none⟩ = some (.string ⟨#[]⟩) ∧ X.cell? ⟨nq,4,none⟩ = some (.slice n1 3 n2) ∧ X.cell? ⟨nq,5,none⟩ = some (.slice n3 3 n4) ∧ X.cell? ⟨w.heap.size + 1,0,none⟩ = some (.int .i64 sso) ∧ X.cell? ⟨w.heap.size + 1,1,none⟩ = some (.bool son) ∧ X.cell? ⟨w.heap.size + 1,2,none⟩ = some (.int .i64 sn) ∧ X.cell? ⟨w.heap.size + 1,3,none⟩ = some (.string ⟨st.toArray⟩) ∧ X.cell? ⟨w.heap.size + 1,4,none⟩ = some (.slice s1 sm1 s2) ∧ X.cell? ⟨w.heap.size + 1,5,none⟩ = some (.slice s3 sm2 s4) ∧ Below We.heap.size We X)) (with_reducible (repeat (first | assumption))) (first
   | (go_at_call 12; (with_reducible refine (cT _ ?_).mono ?_); assumption; rintro e wt ⟨t1,t2,rfl,HVtt,HBtt,hStt⟩)
   | (go_at_call 26; (with_reducible refine (cF _ ?_).mono ?_); assumption; rintro e wf ⟨f1,f2,f3,f4,rfl,HVff,HBff,hSff⟩)
   | (go_at_call 11; (with_reducible refine (cE _ t1 t2 f1 f2 f3 f4 ?_ ?_ ?_).mono ?_); assumption; (exact val_below HVtt.out HBff.out); (exact HVff.out); rintro e Wf ⟨rfl,hSf⟩))
  have hbf := hSf.2.2.2.2.2.2.2.2.2.2.2.2
  have hzf : w.heap.size + 2 ≤ Wf.heap.size := by have := (hbf).size; omega
  have HJf := Lib.hid (((hbf).block w.heap.size (by omega)).trans HJe.out)
  have HSf := Lib.hid (((hbf).block (w.heap.size + 1) (by omega)).trans HSe.out)
  have HXf := Lib.hid (((hbf).block xq (Array.getElem?_eq_some_iff.1 HXe.out).1).trans HXe.out)
  have HVXf := Lib.hid (val_below HVXe.out (hbf))
  have HYf := Lib.hid (((hbf).block yq (Array.getElem?_eq_some_iff.1 HYe.out).1).trans HYe.out)
  have HVYf := Lib.hid (val_below HVYe.out (hbf))
  have HNf := Lib.hid (((hbf).block nq (Array.getElem?_eq_some_iff.1 HNe.out).1).trans HNe.out)
  have HVNf := Lib.hid (val_below HVNe.out (hbf))
  have HBf := Lib.hid (HBe.out.trans ((hbf).mono HBe.out.size))
  have HIf := Lib.hid (val_below HIe.out (hbf))
  have HRf := Lib.hid (val_below HRe.out (hbf))
  clear HJe HSe HBe HIe HRe HXe HVXe HYe HVYe HNe HVNe
  clear hbf hSf hc hS0 cT cF cE hltn
  (try clear hStt HVtt HBtt)
  (try clear hSff HVff HBff)
  go_upto_region 9 with fail
  obtain ⟨nh,hnh⟩ : ∃ x,(readW (noteV bPublish (.mk sso son sn st sl sks))).2 = x := ⟨_,rfl⟩
  have hn42 := note_42 (.mk sso son sn st sl sks)
  rw [hnh] at hn42
  have HNH := Lib.hid hnh
  have HN42 := Lib.hid hn42
  clear hnh hn42
  have p0 : Wf.cell? ⟨xq,0,none⟩ = some (.int .i64 5) := by unfold World.cell?; rw [HXf.out]; rfl
  have p1 : Wf.cell? ⟨xq,1,none⟩ = some (.bool false) := by unfold World.cell?; rw [HXf.out]; rfl
  have p2 : Wf.cell? ⟨xq,2,none⟩ = some (.int .i64 0) := by unfold World.cell?; rw [HXf.out]; rfl
  have p3 : Wf.cell? ⟨xq,3,none⟩ = some (.string ⟨#[]⟩) := by unfold World.cell?; rw [HXf.out]; rfl
  have p4 : Wf.cell? ⟨xq,4,none⟩ = some (.slice x1 3 x2) := by unfold World.cell?; rw [HXf.out]; rfl
  have p5 : Wf.cell? ⟨xq,5,none⟩ = some (.slice x3 3 x4) := by unfold World.cell?; rw [HXf.out]; rfl
  have CR := read_any (replyV (.mk jso jon jn jt jl jks) (.mk sso son sn st sl sks)) _ _ _ Wf HVXf.out (by omega) (HE.out.later HBf.out) (HM.out.later HBf.out)
  unfold ReadP at CR
  rw [read_42 (reply_none (.mk jso jon jn jt jl jks) (.mk sso son sn st sl sks))] at CR
  generalize (readW (replyV (.mk jso jon jn jt jl jks) (.mk sso son sn st sl sks))).1 = d at CR
  have CRH := Lib.hid CR
  clear CR
  go_wp2_with fail
  refine CRH.out.mono ?_
  rintro e wg ⟨hbr,dil',dik',dch',dol',dok',rfl,hcr⟩
  clear CRH p0 p1 p2 p3 p4 p5
  have h1 := hcr.id
  have h2 := hcr.other
  have h3 := hcr.edits
  clear hcr
  obtain ⟨dk,⟨diso,dion,dinn,ditx,dil,diks⟩,dnm,dv,dtx,dch,⟨dpl,dpu⟩,⟨doso,doon,donn,dotx,dol,doks⟩⟩ := d
  obtain ⟨⟨di1,di2,rfl,_⟩,⟨di3,di4,rfl,_⟩⟩ := h1
  obtain ⟨⟨do1,do2,rfl,_⟩,⟨do3,do4,rfl,_⟩⟩ := h2
  obtain ⟨dc1,dc2,rfl,_⟩ := h3
  simp only [argC,callC,six',six,strCell,List.cons_append,List.nil_append]
  obtain ⟨V,hV⟩ : ∃ V,Value.agg #[.int .i64 dk,.int .i64 diso,.bool dion,.int .i64 dinn,.string ⟨ditx.toArray⟩,.slice di1 dil.length di2,.slice di3 diks.length di4,.string ⟨dnm.toArray⟩,.int .i64 dv,.string ⟨dtx.toArray⟩,.slice dc1 dch.length dc2,.int .i64 dpl,.int .i64 dpu,.int .i64 doso,.bool doon,.int .i64 donn,.string ⟨dotx.toArray⟩,.slice do1 dol.length do2,.slice do3 doks.length do4] = V := ⟨_,rfl⟩
  simp only [hV]
  iterate 13 go_step
  refine wpList_storeV rfl rfl 43 (.tmp 13) (.tmp 60) rfl _ (store_as hV (heap_alloc_new _ _) rfl rfl (by kernel_rfl)) ?_
  obtain ⟨Wg,hWg⟩ : ∃ W,(wg.alloc (.cells #[.int .i64 0,.int .i64 0,.bool false,.int .i64 0,.string ⟨#[]⟩,.slice none 0 0,.slice none 0 0,.string ⟨#[]⟩,.int .i64 0,.string ⟨#[]⟩,.slice none 0 0,.int .i64 0,.int .i64 0,.int .i64 0,.bool false,.int .i64 0,.string ⟨#[]⟩,.slice none 0 0,.slice none 0 0] 43)).setRow wg.heap.size #[.int .i64 dk,.int .i64 diso,.bool dion,.int .i64 dinn,.string ⟨ditx.toArray⟩,.slice di1 dil.length di2,.slice di3 diks.length di4,.string ⟨dnm.toArray⟩,.int .i64 dv,.string ⟨dtx.toArray⟩,.slice dc1 dch.length dc2,.int .i64 dpl,.int .i64 dpu,.int .i64 doso,.bool doon,.int .i64 donn,.string ⟨dotx.toArray⟩,.slice do1 dol.length do2,.slice do3 doks.length do4] = W := ⟨_,rfl⟩
  have hbg : Below Wf.heap.size Wf Wg := hbr.trans (by rw [← hWg]; exact Below.setRow' ((Below.refl _ _).alloc hbr.size _) hbr.size _)
  have hzg : w.heap.size + 2 ≤ Wg.heap.size := by have := (hbg).size; omega
  have HJg := Lib.hid (((hbg).block w.heap.size (by omega)).trans HJf.out)
  have HSg := Lib.hid (((hbg).block (w.heap.size + 1) (by omega)).trans HSf.out)
  have HXg := Lib.hid (((hbg).block xq (Array.getElem?_eq_some_iff.1 HXf.out).1).trans HXf.out)
  have HVXg := Lib.hid (val_below HVXf.out (hbg))
  have HYg := Lib.hid (((hbg).block yq (Array.getElem?_eq_some_iff.1 HYf.out).1).trans HYf.out)
  have HVYg := Lib.hid (val_below HVYf.out (hbg))
  have HNg := Lib.hid (((hbg).block nq (Array.getElem?_eq_some_iff.1 HNf.out).1).trans HNf.out)
  have HVNg := Lib.hid (val_below HVNf.out (hbg))
  have HBg := Lib.hid (HBf.out.trans ((hbg).mono HBf.out.size))
  have HIg := Lib.hid (val_below HIf.out (hbg))
  have HRg := Lib.hid (val_below HRf.out (hbg))
  clear HJf HSf HBf HIf HRf HXf HVXf HYf HVYf HNf HVNf
  go_upto_region 10 with fail
  (try rw [hWg])
  clear hbg hbr hWg hV
  have p0 : Wg.cell? ⟨yq,0,none⟩ = some (.int .i64 5) := by unfold World.cell?; rw [HYg.out]; rfl
  have p1 : Wg.cell? ⟨yq,1,none⟩ = some (.bool false) := by unfold World.cell?; rw [HYg.out]; rfl
  have p2 : Wg.cell? ⟨yq,2,none⟩ = some (.int .i64 0) := by unfold World.cell?; rw [HYg.out]; rfl
  have p3 : Wg.cell? ⟨yq,3,none⟩ = some (.string ⟨#[]⟩) := by unfold World.cell?; rw [HYg.out]; rfl
  have p4 : Wg.cell? ⟨yq,4,none⟩ = some (.slice y1 3 y2) := by unfold World.cell?; rw [HYg.out]; rfl
  have p5 : Wg.cell? ⟨yq,5,none⟩ = some (.slice y3 3 y4) := by unfold World.cell?; rw [HYg.out]; rfl
  have CR := read_any (failV (.mk jso jon jn jt jl jks) (codeN er) (nameC (codeN er))) _ _ _ Wg HVYg.out (by omega) (HE.out.later HBg.out) (HM.out.later HBg.out)
  unfold ReadP at CR
  rw [read_42 (fail_none (.mk jso jon jn jt jl jks) (codeN er) (nameC (codeN er)))] at CR
  generalize (readW (failV (.mk jso jon jn jt jl jks) (codeN er) (nameC (codeN er)))).1 = d at CR
  have CRH := Lib.hid CR
  clear CR
  go_wp2_with fail
  refine CRH.out.mono ?_
  rintro e wh ⟨hbr,dil',dik',dch',dol',dok',rfl,hcr⟩
  clear CRH p0 p1 p2 p3 p4 p5
  have h1 := hcr.id
  have h2 := hcr.other
  have h3 := hcr.edits
  clear hcr
  obtain ⟨dk,⟨diso,dion,dinn,ditx,dil,diks⟩,dnm,dv,dtx,dch,⟨dpl,dpu⟩,⟨doso,doon,donn,dotx,dol,doks⟩⟩ := d
  obtain ⟨⟨di1,di2,rfl,_⟩,⟨di3,di4,rfl,_⟩⟩ := h1
  obtain ⟨⟨do1,do2,rfl,_⟩,⟨do3,do4,rfl,_⟩⟩ := h2
  obtain ⟨dc1,dc2,rfl,_⟩ := h3
  simp only [argC,callC,six',six,strCell,List.cons_append,List.nil_append]
  obtain ⟨V,hV⟩ : ∃ V,Value.agg #[.int .i64 dk,.int .i64 diso,.bool dion,.int .i64 dinn,.string ⟨ditx.toArray⟩,.slice di1 dil.length di2,.slice di3 diks.length di4,.string ⟨dnm.toArray⟩,.int .i64 dv,.string ⟨dtx.toArray⟩,.slice dc1 dch.length dc2,.int .i64 dpl,.int .i64 dpu,.int .i64 doso,.bool doon,.int .i64 donn,.string ⟨dotx.toArray⟩,.slice do1 dol.length do2,.slice do3 doks.length do4] = V := ⟨_,rfl⟩
  simp only [hV]
  iterate 13 go_step
  refine wpList_storeV rfl rfl 43 (.tmp 15) (.tmp 65) rfl _ (store_as hV (heap_alloc_new _ _) rfl rfl (by kernel_rfl)) ?_
  obtain ⟨Wh,hWh⟩ : ∃ W,(wh.alloc (.cells #[.int .i64 0,.int .i64 0,.bool false,.int .i64 0,.string ⟨#[]⟩,.slice none 0 0,.slice none 0 0,.string ⟨#[]⟩,.int .i64 0,.string ⟨#[]⟩,.slice none 0 0,.int .i64 0,.int .i64 0,.int .i64 0,.bool false,.int .i64 0,.string ⟨#[]⟩,.slice none 0 0,.slice none 0 0] 43)).setRow wh.heap.size #[.int .i64 dk,.int .i64 diso,.bool dion,.int .i64 dinn,.string ⟨ditx.toArray⟩,.slice di1 dil.length di2,.slice di3 diks.length di4,.string ⟨dnm.toArray⟩,.int .i64 dv,.string ⟨dtx.toArray⟩,.slice dc1 dch.length dc2,.int .i64 dpl,.int .i64 dpu,.int .i64 doso,.bool doon,.int .i64 donn,.string ⟨dotx.toArray⟩,.slice do1 dol.length do2,.slice do3 doks.length do4] = W := ⟨_,rfl⟩
  have hbh : Below Wg.heap.size Wg Wh := hbr.trans (by rw [← hWh]; exact Below.setRow' ((Below.refl _ _).alloc hbr.size _) hbr.size _)
  have hzh : w.heap.size + 2 ≤ Wh.heap.size := by have := (hbh).size; omega
  have HJh := Lib.hid (((hbh).block w.heap.size (by omega)).trans HJg.out)
  have HSh := Lib.hid (((hbh).block (w.heap.size + 1) (by omega)).trans HSg.out)
  have HXh := Lib.hid (((hbh).block xq (Array.getElem?_eq_some_iff.1 HXg.out).1).trans HXg.out)
  have HVXh := Lib.hid (val_below HVXg.out (hbh))
  have HYh := Lib.hid (((hbh).block yq (Array.getElem?_eq_some_iff.1 HYg.out).1).trans HYg.out)
  have HVYh := Lib.hid (val_below HVYg.out (hbh))
  have HNh := Lib.hid (((hbh).block nq (Array.getElem?_eq_some_iff.1 HNg.out).1).trans HNg.out)
  have HVNh := Lib.hid (val_below HVNg.out (hbh))
  have HBh := Lib.hid (HBg.out.trans ((hbh).mono HBg.out.size))
  have HIh := Lib.hid (val_below HIg.out (hbh))
  have HRh := Lib.hid (val_below HRg.out (hbh))
  clear HJg HSg HBg HIg HRg HXg HVXg HYg HVYg HNg HVNg
  go_upto_region 11 with fail
  (try rw [hWh])
  clear hbh hbr hWh hV
  have p0 : Wh.cell? ⟨nq,0,none⟩ = some (.int .i64 5) := by unfold World.cell?; rw [HNh.out]; rfl
  have p1 : Wh.cell? ⟨nq,1,none⟩ = some (.bool false) := by unfold World.cell?; rw [HNh.out]; rfl
  have p2 : Wh.cell? ⟨nq,2,none⟩ = some (.int .i64 0) := by unfold World.cell?; rw [HNh.out]; rfl
  have p3 : Wh.cell? ⟨nq,3,none⟩ = some (.string ⟨#[]⟩) := by unfold World.cell?; rw [HNh.out]; rfl
  have p4 : Wh.cell? ⟨nq,4,none⟩ = some (.slice n1 3 n2) := by unfold World.cell?; rw [HNh.out]; rfl
  have p5 : Wh.cell? ⟨nq,5,none⟩ = some (.slice n3 3 n4) := by unfold World.cell?; rw [HNh.out]; rfl
  have CR := read_any (noteV bPublish (.mk sso son sn st sl sks)) _ _ _ Wh HVNh.out (by omega) (HE.out.later HBh.out) (HM.out.later HBh.out)
  unfold ReadP at CR
  rw [HNH.out] at CR
  generalize (readW (noteV bPublish (.mk sso son sn st sl sks))).1 = d at CR
  have CRH := Lib.hid CR
  clear CR
  go_wp2_with fail
  refine CRH.out.mono ?_
  rintro e wk ⟨hbr,dil',dik',dch',dol',dok',rfl,hcr⟩
  clear CRH p0 p1 p2 p3 p4 p5
  have h1 := hcr.id
  have h2 := hcr.other
  have h3 := hcr.edits
  clear hcr
  obtain ⟨dk,⟨diso,dion,dinn,ditx,dil,diks⟩,dnm,dv,dtx,dch,⟨dpl,dpu⟩,⟨doso,doon,donn,dotx,dol,doks⟩⟩ := d
  obtain ⟨⟨di1,di2,rfl,_⟩,⟨di3,di4,rfl,_⟩⟩ := h1
  obtain ⟨⟨do1,do2,rfl,_⟩,⟨do3,do4,rfl,_⟩⟩ := h2
  obtain ⟨dc1,dc2,rfl,_⟩ := h3
  simp only [argC,callC,six',six,strCell,List.cons_append,List.nil_append]
  obtain ⟨V,hV⟩ : ∃ V,Value.agg #[.int .i64 dk,.int .i64 diso,.bool dion,.int .i64 dinn,.string ⟨ditx.toArray⟩,.slice di1 dil.length di2,.slice di3 diks.length di4,.string ⟨dnm.toArray⟩,.int .i64 dv,.string ⟨dtx.toArray⟩,.slice dc1 dch.length dc2,.int .i64 dpl,.int .i64 dpu,.int .i64 doso,.bool doon,.int .i64 donn,.string ⟨dotx.toArray⟩,.slice do1 dol.length do2,.slice do3 doks.length do4] = V := ⟨_,rfl⟩
  simp only [hV]
  iterate 13 go_step
  refine wpList_storeV rfl rfl 43 (.tmp 17) (.tmp 70) rfl _ (store_as hV (heap_alloc_new _ _) rfl rfl (by kernel_rfl)) ?_
  obtain ⟨Wk,hWk⟩ : ∃ W,(wk.alloc (.cells #[.int .i64 0,.int .i64 0,.bool false,.int .i64 0,.string ⟨#[]⟩,.slice none 0 0,.slice none 0 0,.string ⟨#[]⟩,.int .i64 0,.string ⟨#[]⟩,.slice none 0 0,.int .i64 0,.int .i64 0,.int .i64 0,.bool false,.int .i64 0,.string ⟨#[]⟩,.slice none 0 0,.slice none 0 0] 43)).setRow wk.heap.size #[.int .i64 dk,.int .i64 diso,.bool dion,.int .i64 dinn,.string ⟨ditx.toArray⟩,.slice di1 dil.length di2,.slice di3 diks.length di4,.string ⟨dnm.toArray⟩,.int .i64 dv,.string ⟨dtx.toArray⟩,.slice dc1 dch.length dc2,.int .i64 dpl,.int .i64 dpu,.int .i64 doso,.bool doon,.int .i64 donn,.string ⟨dotx.toArray⟩,.slice do1 dol.length do2,.slice do3 doks.length do4] = W := ⟨_,rfl⟩
  have hbk : Below Wh.heap.size Wh Wk := hbr.trans (by rw [← hWk]; exact Below.setRow' ((Below.refl _ _).alloc hbr.size _) hbr.size _)
  have hzk : w.heap.size + 2 ≤ Wk.heap.size := by have := (hbk).size; omega
  have HJk := Lib.hid (((hbk).block w.heap.size (by omega)).trans HJh.out)
  have HSk := Lib.hid (((hbk).block (w.heap.size + 1) (by omega)).trans HSh.out)
  have HXk := Lib.hid (((hbk).block xq (Array.getElem?_eq_some_iff.1 HXh.out).1).trans HXh.out)
  have HVXk := Lib.hid (val_below HVXh.out (hbk))
  have HYk := Lib.hid (((hbk).block yq (Array.getElem?_eq_some_iff.1 HYh.out).1).trans HYh.out)
  have HVYk := Lib.hid (val_below HVYh.out (hbk))
  have HNk := Lib.hid (((hbk).block nq (Array.getElem?_eq_some_iff.1 HNh.out).1).trans HNh.out)
  have HVNk := Lib.hid (val_below HVNh.out (hbk))
  have HBk := Lib.hid (HBh.out.trans ((hbk).mono HBh.out.size))
  have HIk := Lib.hid (val_below HIh.out (hbk))
  have HRk := Lib.hid (val_below HRh.out (hbk))
  clear HJh HSh HBh HIh HRh HXh HVXh HYh HVYh HNh HVNh
  go_upto_region 12 with fail
  (try rw [hWk])
  clear hbk hbr hWk hV
  have CA := Lib.hid (alive_any Wk (HE.out.later HBk.out) (HM.out.later HBk.out))
  have CC := Lib.hid (fun X => code_any er X)
  have CD := Lib.hid (fun X => refcode_any er X)
  generalize codeN er = cn at CC CD
  have HBZ := HBk
  have hnn := HN42.out
  clear HJk HSk HXk HYk HNk HVXk HVYk HVNk HIk HRk HBk HNH HN42
  clear CjO CsO HE HM wx wy wn
  rcases hnn with rfl | rfl
  all_goals
   go_wp2_with fail
   refine CA.out.mono ?_
   rintro e wz ⟨rfl,hbz⟩
   have HBz := Lib.hid (HBZ.out.trans (hbz.mono HBZ.out.size))
   clear CA hbz
   go_wp2_with fail
   refine (CC.out _).mono ?_
   rintro e wy2 ⟨rfl,rfl⟩
   go_wp2_with fail
   refine (CD.out _).mono ?_
   rintro e wy3 ⟨rfl,rfl⟩
   go_wp2_with fail
   go_ret
   exact ⟨by simp,HBz.out⟩
end Go.Proofs.YtcfdalbdndamoaaGreatDoor.M
