/- What the claim needs of the texts MRef2. -/
import Derived.Test.YtcfdalbdndamoaaGreatDoorRA36
namespace Go.Proofs.YtcfdalbdndamoaaGreatDoor.M
open Go.RowKit
open Go.Lib Go.Proofs.YtcfdalbdndamoaaGreatDoor.V
set_option maxHeartbeats 8000000 in
set_option maxRecDepth 100000 in
theorem reffail_any (i : Val) (er : Int) (il ik : Value) (R : Nat → Prop) (w : World) (hi : ValIn w R i il ik) :
  Calls Tryz.prog 25 #[arg i il ik,.int .i64 er] w fun e w' => Below w.heap.size w w' ∧ ∃ lv kv,e = .returned (arg (failV i (codeN er) (nameC (codeN er))) lv kv) ∧ ValIn w' (fun _ => True) (failV i (codeN er) (nameC (codeN er))) lv kv := by
 have j0 : ValIn w (fun g => g < w.heap.size) i il ik := (ValIn.bound _ _ _ hi).later (fun _ _ _ => rfl) (fun _ h => h.2) _ _ _
 have j0' := hi
 obtain ⟨jso,jon,jn,jt,jl,jks⟩ := i
 obtain ⟨⟨j1,j2,rfl,_⟩,⟨j3,j4,rfl,_⟩⟩ := j0'
 simp only [arg,six',six,strCell]
 obtain ⟨jm1,hj1⟩ : ∃ m,jl.length = m := ⟨_,rfl⟩
 obtain ⟨jm2,hj2⟩ : ∃ m,jks.length = m := ⟨_,rfl⟩
 rw [hj1,hj2] at j0 ⊢
 clear hi
 have cC := fun W => refcode_any er W
 have cN := fun W => refname_any (codeN er) W
 unfold failV
 generalize nameC (codeN er) = nn at cN ⊢
 generalize codeN er = cn at cC cN ⊢
 obtain ⟨h1,h2,h3,h4⟩ := two w (.cells #[.int .i64 jso,.bool jon,.int .i64 jn,.string ⟨jt.toArray⟩,.slice j1 jm1 j2,.slice j3 jm2 j4] 26) (.cells #[.int .i64 0,.bool false,.int .i64 0,.string ⟨#[]⟩,.slice none 0 0,.slice none 0 0] 26)
 obtain ⟨W2,hW2⟩ : ∃ W2,(w.alloc (.cells #[.int .i64 jso,.bool jon,.int .i64 jn,.string ⟨jt.toArray⟩,.slice j1 jm1 j2,.slice j3 jm2 j4] 26)).alloc (.cells #[.int .i64 0,.bool false,.int .i64 0,.string ⟨#[]⟩,.slice none 0 0,.slice none 0 0] 26) = W2 := ⟨_,rfl⟩
 rw [hW2] at h1 h2 h3 h4
 have hz2 : w.heap.size + 2 ≤ W2.heap.size := by omega
 have HX2 := Lib.hid h1
 have HQ2 := Lib.hid h2
 have HB2 := Lib.hid h3
 have CC := Lib.hid (cC W2)
 have CN := Lib.hid cN
 clear h1 h2 h3 h4 cC cN
 go_enter Tryz.func25,Tryz.ntmps25
 go_wp2_with fail
 refine CC.out.mono ?_
 rintro e w2 ⟨rfl,rfl⟩
 clear CC
 go_wp2_with fail
 refine (refnum_any cn _).mono ?_
 rintro e wa ⟨rfl,hba⟩
 have hka := (hba.block w2.heap.size (by simp)).trans (heap_alloc_new w2 _)
 have hb2a : Below w2.heap.size w2 wa := ((Below.refl w2.heap.size w2).alloc (Nat.le_refl _) _).trans (hba.mono (by simp))
 have hza := hba.size
 simp only [World.size_alloc] at hza
 clear hba
 go_wp2_with fail
 refine (CN.out wa).mono ?_
 rintro e wa' ⟨rfl,rfl⟩
 clear CN
 go_wp2_with fail
 refine (refstr_any ⟨nn.toArray⟩ wa').mono ?_
 rintro e wb ⟨rfl,hbb⟩
 have hzb := hbb.size
 have hkb := (hbb.block w2.heap.size (by omega)).trans hka
 have hb2b : Below w2.heap.size w2 wb := hb2a.trans (hbb.mono hb2a.size)
 have hkv := (Below.heap_alloc wb (.cells #[.int .i64 2,.bool false,.int .i64 cn,.string ⟨#[]⟩,.slice none 0 0,.slice none 0 0,.int .i64 3,.bool false,.int .i64 0,.string ⟨nn.toArray⟩,.slice none 0 0,.slice none 0 0] 26) w2.heap.size (by omega)).trans hkb
 have hvv := heap_alloc_new wb (.cells #[.int .i64 2,.bool false,.int .i64 cn,.string ⟨#[]⟩,.slice none 0 0,.slice none 0 0,.int .i64 3,.bool false,.int .i64 0,.string ⟨nn.toArray⟩,.slice none 0 0,.slice none 0 0] 26)
 have hFv := rec_in (R := fun g => w2.heap.size ≤ g) (ks := [bCode,bMsg]) (l := [numP cn,strP nn]) (ck := 2) (cl := 2) hkv hvv rfl rfl (Nat.le_refl _) (by omega) ⟨.slice none 0 0,.slice none 0 0,_,rfl,leaf_in _ _ _ _ _ _,.slice none 0 0,.slice none 0 0,_,rfl,leaf_in _ _ _ _ _ _,rfl⟩
 have hb2v : Below w2.heap.size w2 (wb.alloc (.cells #[.int .i64 2,.bool false,.int .i64 cn,.string ⟨#[]⟩,.slice none 0 0,.slice none 0 0,.int .i64 3,.bool false,.int .i64 0,.string ⟨nn.toArray⟩,.slice none 0 0,.slice none 0 0] 26)) := hb2b.alloc (by omega) _
 obtain ⟨gk,hgk⟩ : ∃ g,w2.heap.size = g := ⟨_,rfl⟩
 obtain ⟨gl,hgl⟩ : ∃ g,wb.heap.size = g := ⟨_,rfl⟩
 have HFv := Lib.hid hFv
 have HBv := Lib.hid hb2v
 clear hka hb2a hbb hkb hb2b hkv hvv hFv hb2v
 go_wp2_with fail
 refine (refrec_any _ _ _ _ _ _ _).mono ?_
 rintro e wc ⟨rfl,hbc⟩
 have hvc := val_below HFv.out hbc
 have hbw2 := HBv.out.trans (hbc.mono HBv.out.size)
 obtain ⟨d,hd⟩ : ∃ d,wc.heap.size = d := ⟨_,rfl⟩
 go_upto_region 3 with fail
 obtain ⟨W3,hW3⟩ : ∃ W3,wc.alloc (.cells #[.int .i64 5,.bool false,.int .i64 0,.string ⟨#[]⟩,.slice (some ⟨gl,0,none⟩) 2 2,.slice (some ⟨gk,0,none⟩) 2 2] 26) = W3 := ⟨_,rfl⟩
 have hb3 : Below wc.heap.size wc W3 := by rw [← hW3]; exact (Below.refl _ _).alloc (Nat.le_refl _) _
 have hb23 : Below w2.heap.size w2 W3 := hbw2.trans (hb3.mono hbw2.size)
 have hz3 := hb23.size
 have hszc := hbw2.size
 have h1 : W3.heap[w.heap.size]? = some (.cells #[.int .i64 jso,.bool jon,.int .i64 jn,.string ⟨jt.toArray⟩,.slice j1 jm1 j2,.slice j3 jm2 j4] 26 (0,0)) := (hb23.block _ (by omega)).trans HX2.out
 have h2 : W3.heap[d]? = some (.cells #[.int .i64 5,.bool false,.int .i64 0,.string ⟨#[]⟩,.slice (some ⟨gl,0,none⟩) 2 2,.slice (some ⟨gk,0,none⟩) 2 2] 26 (0,0)) := by rw [← hW3,← hd]; exact heap_alloc_new _ _
 obtain ⟨q,hq⟩ : ∃ q,w.heap.size + 1 = q := ⟨_,rfl⟩
 have hq3 : W3.heap[q]? = some (.cells #[.int .i64 0,.bool false,.int .i64 0,.string ⟨#[]⟩,.slice none 0 0,.slice none 0 0] 26 (0,0)) := by rw [← hq]; exact (hb23.block _ (by omega)).trans HQ2.out
 have HB3 := Lib.hid (HB2.out.trans (hb23.mono HB2.out.size))
 have j3' : ValIn W3 (fun b => b ≠ q) (.mk jso jon jn jt jl jks) (.slice j1 jm1 j2) (.slice j3 jm2 j4) := ValIn.later (fun g hg _ => HB3.out.block g hg) (fun g hg => by omega) _ _ _ j0
 have f3' : ValIn W3 (fun b => b ≠ q) (recP [bCode,bMsg] [numP cn,strP nn]) (.slice (some ⟨gl,0,none⟩) 2 2) (.slice (some ⟨gk,0,none⟩) 2 2) := by
  rw [← hgl,← hgk]
  exact ValIn.later (R := fun g => w2.heap.size ≤ g) (fun _ _ _ => rfl) (fun b hb => by omega) _ _ _ (val_below hvc hb3)
 have hBq : w.heap.size ≤ q := by omega
 have hqd : d ≠ q := by omega
 have hqw : w.heap.size ≠ q := by omega
 (try rw [hW3])
 (try rw [hq])
 have p0 : W3.cell? ⟨w.heap.size,0,none⟩ = some (.int .i64 jso) := by unfold World.cell?; rw [h1]; rfl
 have p1 : W3.cell? ⟨w.heap.size,1,none⟩ = some (.bool jon) := by unfold World.cell?; rw [h1]; rfl
 have p2 : W3.cell? ⟨w.heap.size,2,none⟩ = some (.int .i64 jn) := by unfold World.cell?; rw [h1]; rfl
 have p3 : W3.cell? ⟨w.heap.size,3,none⟩ = some (.string ⟨jt.toArray⟩) := by unfold World.cell?; rw [h1]; rfl
 have p4 : W3.cell? ⟨w.heap.size,4,none⟩ = some (.slice j1 jm1 j2) := by unfold World.cell?; rw [h1]; rfl
 have p5 : W3.cell? ⟨w.heap.size,5,none⟩ = some (.slice j3 jm2 j4) := by unfold World.cell?; rw [h1]; rfl
 have p6 : W3.cell? ⟨d,0,none⟩ = some (.int .i64 5) := by unfold World.cell?; rw [h2]; rfl
 have p7 : W3.cell? ⟨d,1,none⟩ = some (.bool false) := by unfold World.cell?; rw [h2]; rfl
 have p8 : W3.cell? ⟨d,2,none⟩ = some (.int .i64 0) := by unfold World.cell?; rw [h2]; rfl
 have p9 : W3.cell? ⟨d,3,none⟩ = some (.string ⟨#[]⟩) := by unfold World.cell?; rw [h2]; rfl
 have p10 : W3.cell? ⟨d,4,none⟩ = some (.slice (some ⟨gl,0,none⟩) 2 2) := by unfold World.cell?; rw [h2]; rfl
 have p11 : W3.cell? ⟨d,5,none⟩ = some (.slice (some ⟨gk,0,none⟩) 2 2) := by unfold World.cell?; rw [h2]; rfl
 clear h1 h2 hb3 hb23 hbc hvc hbw2 HFv HBv HX2 HQ2 HB2 j0 hW3 hW2 hd hq
 have hc : ∀ W,OpenR q W3 W → (W.cell? ⟨w.heap.size,0,none⟩ = some (.int .i64 jso) ∧ W.cell? ⟨w.heap.size,1,none⟩ = some (.bool jon) ∧ W.cell? ⟨w.heap.size,2,none⟩ = some (.int .i64 jn) ∧ W.cell? ⟨w.heap.size,3,none⟩ = some (.string ⟨jt.toArray⟩) ∧ W.cell? ⟨w.heap.size,4,none⟩ = some (.slice j1 jm1 j2) ∧ W.cell? ⟨w.heap.size,5,none⟩ = some (.slice j3 jm2 j4) ∧ W.cell? ⟨d,0,none⟩ = some (.int .i64 5) ∧ W.cell? ⟨d,1,none⟩ = some (.bool false) ∧ W.cell? ⟨d,2,none⟩ = some (.int .i64 0) ∧ W.cell? ⟨d,3,none⟩ = some (.string ⟨#[]⟩) ∧ W.cell? ⟨d,4,none⟩ = some (.slice (some ⟨gl,0,none⟩) 2 2) ∧ W.cell? ⟨d,5,none⟩ = some (.slice (some ⟨gk,0,none⟩) 2 2) ∧ OpenR q W3 W) := fun W hO => ⟨hO.cell p0 (by show w.heap.size ≠ q; omega),hO.cell p1 (by show w.heap.size ≠ q; omega),hO.cell p2 (by show w.heap.size ≠ q; omega),hO.cell p3 (by show w.heap.size ≠ q; omega),hO.cell p4 (by show w.heap.size ≠ q; omega),hO.cell p5 (by show w.heap.size ≠ q; omega),hO.cell p6 (by show d ≠ q; omega),hO.cell p7 (by show d ≠ q; omega),hO.cell p8 (by show d ≠ q; omega),hO.cell p9 (by show d ≠ q; omega),hO.cell p10 (by show d ≠ q; omega),hO.cell p11 (by show d ≠ q; omega),hO⟩
 have hA : ∀ W ob,(W.cell? ⟨w.heap.size,0,none⟩ = some (.int .i64 jso) ∧ W.cell? ⟨w.heap.size,1,none⟩ = some (.bool jon) ∧ W.cell? ⟨w.heap.size,2,none⟩ = some (.int .i64 jn) ∧ W.cell? ⟨w.heap.size,3,none⟩ = some (.string ⟨jt.toArray⟩) ∧ W.cell? ⟨w.heap.size,4,none⟩ = some (.slice j1 jm1 j2) ∧ W.cell? ⟨w.heap.size,5,none⟩ = some (.slice j3 jm2 j4) ∧ W.cell? ⟨d,0,none⟩ = some (.int .i64 5) ∧ W.cell? ⟨d,1,none⟩ = some (.bool false) ∧ W.cell? ⟨d,2,none⟩ = some (.int .i64 0) ∧ W.cell? ⟨d,3,none⟩ = some (.string ⟨#[]⟩) ∧ W.cell? ⟨d,4,none⟩ = some (.slice (some ⟨gl,0,none⟩) 2 2) ∧ W.cell? ⟨d,5,none⟩ = some (.slice (some ⟨gk,0,none⟩) 2 2) ∧ OpenR q W3 W) → (((W.alloc ob)).cell? ⟨w.heap.size,0,none⟩ = some (.int .i64 jso) ∧ ((W.alloc ob)).cell? ⟨w.heap.size,1,none⟩ = some (.bool jon) ∧ ((W.alloc ob)).cell? ⟨w.heap.size,2,none⟩ = some (.int .i64 jn) ∧ ((W.alloc ob)).cell? ⟨w.heap.size,3,none⟩ = some (.string ⟨jt.toArray⟩) ∧ ((W.alloc ob)).cell? ⟨w.heap.size,4,none⟩ = some (.slice j1 jm1 j2) ∧ ((W.alloc ob)).cell? ⟨w.heap.size,5,none⟩ = some (.slice j3 jm2 j4) ∧ ((W.alloc ob)).cell? ⟨d,0,none⟩ = some (.int .i64 5) ∧ ((W.alloc ob)).cell? ⟨d,1,none⟩ = some (.bool false) ∧ ((W.alloc ob)).cell? ⟨d,2,none⟩ = some (.int .i64 0) ∧ ((W.alloc ob)).cell? ⟨d,3,none⟩ = some (.string ⟨#[]⟩) ∧ ((W.alloc ob)).cell? ⟨d,4,none⟩ = some (.slice (some ⟨gl,0,none⟩) 2 2) ∧ ((W.alloc ob)).cell? ⟨d,5,none⟩ = some (.slice (some ⟨gk,0,none⟩) 2 2) ∧ OpenR q W3 ((W.alloc ob))) := fun W ob hS => hc _ (hS.2.2.2.2.2.2.2.2.2.2.2.2.alloc ob)
 have hT : ∀ W i v,(W.cell? ⟨w.heap.size,0,none⟩ = some (.int .i64 jso) ∧ W.cell? ⟨w.heap.size,1,none⟩ = some (.bool jon) ∧ W.cell? ⟨w.heap.size,2,none⟩ = some (.int .i64 jn) ∧ W.cell? ⟨w.heap.size,3,none⟩ = some (.string ⟨jt.toArray⟩) ∧ W.cell? ⟨w.heap.size,4,none⟩ = some (.slice j1 jm1 j2) ∧ W.cell? ⟨w.heap.size,5,none⟩ = some (.slice j3 jm2 j4) ∧ W.cell? ⟨d,0,none⟩ = some (.int .i64 5) ∧ W.cell? ⟨d,1,none⟩ = some (.bool false) ∧ W.cell? ⟨d,2,none⟩ = some (.int .i64 0) ∧ W.cell? ⟨d,3,none⟩ = some (.string ⟨#[]⟩) ∧ W.cell? ⟨d,4,none⟩ = some (.slice (some ⟨gl,0,none⟩) 2 2) ∧ W.cell? ⟨d,5,none⟩ = some (.slice (some ⟨gk,0,none⟩) 2 2) ∧ OpenR q W3 W) → (((W.setCell ⟨q,i,none⟩ v)).cell? ⟨w.heap.size,0,none⟩ = some (.int .i64 jso) ∧ ((W.setCell ⟨q,i,none⟩ v)).cell? ⟨w.heap.size,1,none⟩ = some (.bool jon) ∧ ((W.setCell ⟨q,i,none⟩ v)).cell? ⟨w.heap.size,2,none⟩ = some (.int .i64 jn) ∧ ((W.setCell ⟨q,i,none⟩ v)).cell? ⟨w.heap.size,3,none⟩ = some (.string ⟨jt.toArray⟩) ∧ ((W.setCell ⟨q,i,none⟩ v)).cell? ⟨w.heap.size,4,none⟩ = some (.slice j1 jm1 j2) ∧ ((W.setCell ⟨q,i,none⟩ v)).cell? ⟨w.heap.size,5,none⟩ = some (.slice j3 jm2 j4) ∧ ((W.setCell ⟨q,i,none⟩ v)).cell? ⟨d,0,none⟩ = some (.int .i64 5) ∧ ((W.setCell ⟨q,i,none⟩ v)).cell? ⟨d,1,none⟩ = some (.bool false) ∧ ((W.setCell ⟨q,i,none⟩ v)).cell? ⟨d,2,none⟩ = some (.int .i64 0) ∧ ((W.setCell ⟨q,i,none⟩ v)).cell? ⟨d,3,none⟩ = some (.string ⟨#[]⟩) ∧ ((W.setCell ⟨q,i,none⟩ v)).cell? ⟨d,4,none⟩ = some (.slice (some ⟨gl,0,none⟩) 2 2) ∧ ((W.setCell ⟨q,i,none⟩ v)).cell? ⟨d,5,none⟩ = some (.slice (some ⟨gk,0,none⟩) 2 2) ∧ OpenR q W3 ((W.setCell ⟨q,i,none⟩ v))) := fun W i v hS => hc _ (hS.2.2.2.2.2.2.2.2.2.2.2.2.set i v)
 have hS0 : (W3.drew.cell? ⟨w.heap.size,0,none⟩ = some (.int .i64 jso) ∧ W3.drew.cell? ⟨w.heap.size,1,none⟩ = some (.bool jon) ∧ W3.drew.cell? ⟨w.heap.size,2,none⟩ = some (.int .i64 jn) ∧ W3.drew.cell? ⟨w.heap.size,3,none⟩ = some (.string ⟨jt.toArray⟩) ∧ W3.drew.cell? ⟨w.heap.size,4,none⟩ = some (.slice j1 jm1 j2) ∧ W3.drew.cell? ⟨w.heap.size,5,none⟩ = some (.slice j3 jm2 j4) ∧ W3.drew.cell? ⟨d,0,none⟩ = some (.int .i64 5) ∧ W3.drew.cell? ⟨d,1,none⟩ = some (.bool false) ∧ W3.drew.cell? ⟨d,2,none⟩ = some (.int .i64 0) ∧ W3.drew.cell? ⟨d,3,none⟩ = some (.string ⟨#[]⟩) ∧ W3.drew.cell? ⟨d,4,none⟩ = some (.slice (some ⟨gl,0,none⟩) 2 2) ∧ W3.drew.cell? ⟨d,5,none⟩ = some (.slice (some ⟨gk,0,none⟩) 2 2) ∧ OpenR q W3 W3.drew) := hc _ (OpenR.start hq3).drew
 have hAD : ∀ ob,(((W3.alloc ob).drew).cell? ⟨w.heap.size,0,none⟩ = some (.int .i64 jso) ∧ ((W3.alloc ob).drew).cell? ⟨w.heap.size,1,none⟩ = some (.bool jon) ∧ ((W3.alloc ob).drew).cell? ⟨w.heap.size,2,none⟩ = some (.int .i64 jn) ∧ ((W3.alloc ob).drew).cell? ⟨w.heap.size,3,none⟩ = some (.string ⟨jt.toArray⟩) ∧ ((W3.alloc ob).drew).cell? ⟨w.heap.size,4,none⟩ = some (.slice j1 jm1 j2) ∧ ((W3.alloc ob).drew).cell? ⟨w.heap.size,5,none⟩ = some (.slice j3 jm2 j4) ∧ ((W3.alloc ob).drew).cell? ⟨d,0,none⟩ = some (.int .i64 5) ∧ ((W3.alloc ob).drew).cell? ⟨d,1,none⟩ = some (.bool false) ∧ ((W3.alloc ob).drew).cell? ⟨d,2,none⟩ = some (.int .i64 0) ∧ ((W3.alloc ob).drew).cell? ⟨d,3,none⟩ = some (.string ⟨#[]⟩) ∧ ((W3.alloc ob).drew).cell? ⟨d,4,none⟩ = some (.slice (some ⟨gl,0,none⟩) 2 2) ∧ ((W3.alloc ob).drew).cell? ⟨d,5,none⟩ = some (.slice (some ⟨gk,0,none⟩) 2 2) ∧ OpenR q W3 ((W3.alloc ob).drew)) := fun ob => hc _ ((OpenR.start hq3).alloc ob).drew
 have cS : ∀ s W,(W.cell? ⟨w.heap.size,0,none⟩ = some (.int .i64 jso) ∧ W.cell? ⟨w.heap.size,1,none⟩ = some (.bool jon) ∧ W.cell? ⟨w.heap.size,2,none⟩ = some (.int .i64 jn) ∧ W.cell? ⟨w.heap.size,3,none⟩ = some (.string ⟨jt.toArray⟩) ∧ W.cell? ⟨w.heap.size,4,none⟩ = some (.slice j1 jm1 j2) ∧ W.cell? ⟨w.heap.size,5,none⟩ = some (.slice j3 jm2 j4) ∧ W.cell? ⟨d,0,none⟩ = some (.int .i64 5) ∧ W.cell? ⟨d,1,none⟩ = some (.bool false) ∧ W.cell? ⟨d,2,none⟩ = some (.int .i64 0) ∧ W.cell? ⟨d,3,none⟩ = some (.string ⟨#[]⟩) ∧ W.cell? ⟨d,4,none⟩ = some (.slice (some ⟨gl,0,none⟩) 2 2) ∧ W.cell? ⟨d,5,none⟩ = some (.slice (some ⟨gk,0,none⟩) 2 2) ∧ OpenR q W3 W) → Calls Tryz.prog 53 #[.string s] W fun e w' => e = .returned (.agg #[.int .i64 3,.bool false,.int .i64 0,.string s,.slice none 0 0,.slice none 0 0]) ∧ Hid (Below W.heap.size W w') ∧ (w'.cell? ⟨w.heap.size,0,none⟩ = some (.int .i64 jso) ∧ w'.cell? ⟨w.heap.size,1,none⟩ = some (.bool jon) ∧ w'.cell? ⟨w.heap.size,2,none⟩ = some (.int .i64 jn) ∧ w'.cell? ⟨w.heap.size,3,none⟩ = some (.string ⟨jt.toArray⟩) ∧ w'.cell? ⟨w.heap.size,4,none⟩ = some (.slice j1 jm1 j2) ∧ w'.cell? ⟨w.heap.size,5,none⟩ = some (.slice j3 jm2 j4) ∧ w'.cell? ⟨d,0,none⟩ = some (.int .i64 5) ∧ w'.cell? ⟨d,1,none⟩ = some (.bool false) ∧ w'.cell? ⟨d,2,none⟩ = some (.int .i64 0) ∧ w'.cell? ⟨d,3,none⟩ = some (.string ⟨#[]⟩) ∧ w'.cell? ⟨d,4,none⟩ = some (.slice (some ⟨gl,0,none⟩) 2 2) ∧ w'.cell? ⟨d,5,none⟩ = some (.slice (some ⟨gk,0,none⟩) 2 2) ∧ OpenR q W3 w') := fun s W hS => by
  refine (refstr_any s W).mono ?_
  rintro e w' ⟨rfl,h2⟩
  exact ⟨rfl,Lib.hid h2,hc _ (hS.2.2.2.2.2.2.2.2.2.2.2.2.later h2)⟩
 have cW : ∀ W (hk hl : Nat),(W.cell? ⟨w.heap.size,0,none⟩ = some (.int .i64 jso) ∧ W.cell? ⟨w.heap.size,1,none⟩ = some (.bool jon) ∧ W.cell? ⟨w.heap.size,2,none⟩ = some (.int .i64 jn) ∧ W.cell? ⟨w.heap.size,3,none⟩ = some (.string ⟨jt.toArray⟩) ∧ W.cell? ⟨w.heap.size,4,none⟩ = some (.slice j1 jm1 j2) ∧ W.cell? ⟨w.heap.size,5,none⟩ = some (.slice j3 jm2 j4) ∧ W.cell? ⟨d,0,none⟩ = some (.int .i64 5) ∧ W.cell? ⟨d,1,none⟩ = some (.bool false) ∧ W.cell? ⟨d,2,none⟩ = some (.int .i64 0) ∧ W.cell? ⟨d,3,none⟩ = some (.string ⟨#[]⟩) ∧ W.cell? ⟨d,4,none⟩ = some (.slice (some ⟨gl,0,none⟩) 2 2) ∧ W.cell? ⟨d,5,none⟩ = some (.slice (some ⟨gk,0,none⟩) 2 2) ∧ OpenR q W3 W) → W.heap[hk]? = some (.cells #[.string ⟨#[106,115,111,110,114,112,99]⟩,.string ⟨#[105,100]⟩,.string ⟨#[101,114,114,111,114]⟩] 9 (0,0)) → W.heap[hl]? = some (.cells #[.int .i64 3,.bool false,.int .i64 0,.string ⟨#[50,46,48]⟩,.slice none 0 0,.slice none 0 0,.int .i64 jso,.bool jon,.int .i64 jn,.string ⟨jt.toArray⟩,.slice j1 jm1 j2,.slice j3 jm2 j4,.int .i64 5,.bool false,.int .i64 0,.string ⟨#[]⟩,.slice (some ⟨gl,0,none⟩) 2 2,.slice (some ⟨gk,0,none⟩) 2 2] 26 (0,0)) → Calls Tryz.prog 52 #[.slice (some ⟨hk,0,none⟩) 3 3,.slice (some ⟨hl,0,none⟩) 3 3] W fun e w' => ∃ y0 y1 y2 y3 y4 y5,e = .returned (.agg #[.int .i64 5,.bool false,.int .i64 0,.string ⟨#[]⟩,.slice (some ⟨hl,0,none⟩) 3 3,.slice (some ⟨hk,0,none⟩) 3 3]) ∧ Hid (ValIn w' (fun b => b ≠ q) (recP [bJsonrpc,bId,bError] [strP bTwo,(.mk jso jon jn jt jl jks),recP [bCode,bMsg] [numP cn,strP nn]]) (.slice (some ⟨hl,0,none⟩) 3 3) (.slice (some ⟨hk,0,none⟩) 3 3)) ∧ w'.cell? ⟨q,0,none⟩ = some y0 ∧ w'.cell? ⟨q,1,none⟩ = some y1 ∧ w'.cell? ⟨q,2,none⟩ = some y2 ∧ w'.cell? ⟨q,3,none⟩ = some y3 ∧ w'.cell? ⟨q,4,none⟩ = some y4 ∧ w'.cell? ⟨q,5,none⟩ = some y5 ∧ (∀ i,w'.frozen? ⟨q,i,none⟩ = false) ∧ Hid (w'.heap[q]? = some (.cells #[y0,y1,y2,y3,y4,y5] 26 (0,0))) ∧ (w'.cell? ⟨w.heap.size,0,none⟩ = some (.int .i64 jso) ∧ w'.cell? ⟨w.heap.size,1,none⟩ = some (.bool jon) ∧ w'.cell? ⟨w.heap.size,2,none⟩ = some (.int .i64 jn) ∧ w'.cell? ⟨w.heap.size,3,none⟩ = some (.string ⟨jt.toArray⟩) ∧ w'.cell? ⟨w.heap.size,4,none⟩ = some (.slice j1 jm1 j2) ∧ w'.cell? ⟨w.heap.size,5,none⟩ = some (.slice j3 jm2 j4) ∧ w'.cell? ⟨d,0,none⟩ = some (.int .i64 5) ∧ w'.cell? ⟨d,1,none⟩ = some (.bool false) ∧ w'.cell? ⟨d,2,none⟩ = some (.int .i64 0) ∧ w'.cell? ⟨d,3,none⟩ = some (.string ⟨#[]⟩) ∧ w'.cell? ⟨d,4,none⟩ = some (.slice (some ⟨gl,0,none⟩) 2 2) ∧ w'.cell? ⟨d,5,none⟩ = some (.slice (some ⟨gk,0,none⟩) 2 2) ∧ OpenR q W3 w') := fun W hk hl hS hgk hgl => by
  refine (refrec_any _ _ _ _ _ _ W).mono ?_
  rintro e w' ⟨rfl,hb⟩
  have hO := hS.2.2.2.2.2.2.2.2.2.2.2.2.later hb
  obtain ⟨y0,y1,y2,y3,y4,y5,k0,k1,k2,k3,k4,k5,kf,hh⟩ := hO.cells
  obtain ⟨_,_,_,_,_,_,hqc⟩ := hS.2.2.2.2.2.2.2.2.2.2.2.2.2.2
  have nk : hk ≠ q := fun h => by rw [h,hqc] at hgk; injection hgk with hgk; injection hgk with _ hgk _; cases hgk
  have nl : hl ≠ q := fun h => by rw [h,hqc] at hgl; injection hgl with hgl; injection hgl with hgl _ _; have := congrArg Array.size hgl; simp at this
  have hv_j3' : ValIn W (fun b => b ≠ q) (.mk jso jon jn jt jl jks) (.slice j1 jm1 j2) (.slice j3 jm2 j4) := ValIn.later (fun g hg hlt => hS.2.2.2.2.2.2.2.2.2.2.2.2.1.block g hlt hg) (fun _ h => h) _ _ _ j3'
  have hv_f3' : ValIn W (fun b => b ≠ q) (recP [bCode,bMsg] [numP cn,strP nn]) (.slice (some ⟨gl,0,none⟩) 2 2) (.slice (some ⟨gk,0,none⟩) 2 2) := ValIn.later (fun g hg hlt => hS.2.2.2.2.2.2.2.2.2.2.2.2.1.block g hlt hg) (fun _ h => h) _ _ _ f3'
  exact ⟨y0,y1,y2,y3,y4,y5,rfl,Lib.hid (val_below (rec_in (ks := [bJsonrpc,bId,bError]) (l := [strP bTwo,(.mk jso jon jn jt jl jks),(recP [bCode,bMsg] [numP cn,strP nn])]) hgk hgl rfl rfl nk nl ⟨.slice none 0 0,.slice none 0 0,_,rfl,leaf_in _ _ _ _ _ _,⟨.slice j1 jm1 j2,.slice j3 jm2 j4,_,rfl,hv_j3',⟨.slice (some ⟨gl,0,none⟩) 2 2,.slice (some ⟨gk,0,none⟩) 2 2,_,rfl,hv_f3',rfl⟩⟩⟩) hb),k0,k1,k2,k3,k4,k5,kf,hh,hc _ hO⟩
 go_region_held3 (fun W => (W.cell? ⟨w.heap.size,0,none⟩ = some (.int .i64 jso) ∧ W.cell? ⟨w.heap.size,1,none⟩ = some (.bool jon) ∧ W.cell? ⟨w.heap.size,2,none⟩ = some (.int .i64 jn) ∧ W.cell? ⟨w.heap.size,3,none⟩ = some (.string ⟨jt.toArray⟩) ∧ W.cell? ⟨w.heap.size,4,none⟩ = some (.slice j1 jm1 j2) ∧ W.cell? ⟨w.heap.size,5,none⟩ = some (.slice j3 jm2 j4) ∧ W.cell? ⟨d,0,none⟩ = some (.int .i64 5) ∧ W.cell? ⟨d,1,none⟩ = some (.bool false) ∧ W.cell? ⟨d,2,none⟩ = some (.int .i64 0) ∧ W.cell? ⟨d,3,none⟩ = some (.string ⟨#[]⟩) ∧ W.cell? ⟨d,4,none⟩ = some (.slice (some ⟨gl,0,none⟩) 2 2) ∧ W.cell? ⟨d,5,none⟩ = some (.slice (some ⟨gk,0,none⟩) 2 2) ∧ OpenR q W3 W)) (with_reducible (repeat (first | assumption | exact hAD _ | refine hA _ _ ?_ | refine hT _ _ _ ?_))) (first
  | (go_at_call 53; (with_reducible refine (cS ⟨#[50,46,48]⟩ _ ?_).mono ?_); (with_reducible (repeat (first | assumption | exact hAD _ | refine hA _ _ ?_))); rintro e wu ⟨rfl,HBu,hSu⟩)
  | (go_at_call 52; (with_reducible refine (cW _ _ _ ?_ ?_ ?_).mono ?_); (with_reducible (repeat (first | assumption | exact hAD _ | refine hA _ _ ?_))); (first | exact heap_alloc_new _ _ | exact kept_new HBu.out | exact kept_newD HBu.out | exact (two _ _ _).1 | exact (two _ _ _).2.1); (first | exact heap_alloc_new _ _ | exact kept_new HBu.out | exact kept_newD HBu.out | exact (two _ _ _).1 | exact (two _ _ _).2.1); rintro e wq ⟨y0,y1,y2,y3,y4,y5,rfl,hv,k0,k1,k2,k3,k4,k5,kf,hh,hSq⟩))
 all_goals
  obtain ⟨HP1,HMB,HV4⟩ := retR6 hh.out (hSq.2.2.2.2.2.2.2.2.2.2.2.2.below HB3.out hBq (by omega)) hBq hv.out (fun b hb => hb)
  have HVE := Lib.hid (ValIn.later (R' := fun _ => True) (fun _ _ _ => rfl) (fun b hb => trivial) _ _ _ HV4.out)
  clear hA hAD hT hS0 cW
  go_wp2_with fail
  (try simp only [Exit.inBlock,Exit.then])
  refine bodyPost_ret (results_cell_row rfl _ _ q 26 _ (0,0) _ (by rfl) HP1.out Tryz.underlying26 rfl (by kernel_rfl)) rfl ?_
  exact ⟨HMB.out,_,_,rfl,HVE.out⟩
end Go.Proofs.YtcfdalbdndamoaaGreatDoor.M
