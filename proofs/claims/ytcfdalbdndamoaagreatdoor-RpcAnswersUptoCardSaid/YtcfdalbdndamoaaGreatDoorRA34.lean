/- What the claim needs of the texts MAlive. -/
import Derived.Test.YtcfdalbdndamoaaGreatDoorRA33
namespace Go.Proofs.YtcfdalbdndamoaaGreatDoor.M
open Go.RowKit
open Go.Lib Go.Proofs.YtcfdalbdndamoaaGreatDoor.V
def tL : ByteArray := ⟨#[123,34,106,115,111,110,114,112,99,34,58,34,50,46,48,34,44,34,105,100,34,58,55,44,34,109,101,116,104,111,100,34,58,34,116,101,120,116,68,111,99,117,109,101,110,116,47,104,111,118,101,114,34,44,34,112,97,114,97,109,115,34,58,123,34,116,101,120,116,68,111,99,117,109,101,110,116,34,58,123,34,117,114,105,34,58,34,97,34,125,44,34,112,111,115,105,116,105,111,110,34,58,123,34,108,105,110,101,34,58,51,44,34,99,104,97,114,97,99,116,101,114,34,58,52,125,125,125]⟩
def cL : CallP := ⟨7,numP 7,[97],0,[],[],⟨3,4⟩,zV⟩
def lL : List Val := [strP bTwo,numP 7,strP bHover,toldV cL]
def kL : List (List UInt8) := [bJsonrpc,bId,bMethod,bParams]
def vL : Val := .mk 5 false 0 [] lL kL
theorem readL : readB tL = .ok vL := by kernel_rfl
theorem readCL : readW vL = (cL,0) := by kernel_rfl
theorem readZ : readW zV = (call0 0 zV,42) := by kernel_rfl
theorem writesL : writesB cL = true := by kernel_rfl
theorem messL : messageW cL = vL := by kernel_rfl
theorem wtL1 : wt vL ≤ 65536 := by decide +kernel
theorem wtL2 : wt vL ≤ 1099511627776 := by decide +kernel
theorem smallL : SmallC cL := ⟨by decide +kernel,by decide +kernel,by decide +kernel,by decide +kernel,by decide +kernel⟩
theorem lenL : lL.length = 4 ∧ kL.length = 4 := ⟨rfl,rfl⟩
theorem read_is {v : Val} {c : CallP} {er : Int} (h : readW v = (c,er)) (lv kv : Value) (R : Nat → Prop) (w : World) (hv : ValIn w R v lv kv) (hw : wt v ≤ 65536) (hE : EnvW w) (hM : MTab w) :
  Calls Tryz.prog 14 #[arg v lv kv] w fun e w' => Below w.heap.size w w' ∧ ∃ il ik ch ol ok,e = .returned (.tuple #[argC c il ik ch ol ok,.int .i64 er]) ∧ CallIn w' (fun g => w.heap.size ≤ g) c il ik ch ol ok := by
 have h2 := read_any v lv kv R w hv hw hE hM
 unfold ReadP at h2
 rw [h] at h2
 exact h2
theorem write_is {c : CallP} (h : writesB c = true) (il ik ch ol ok : Value) (R : Nat → Prop) (w : World) (hc : CallIn w R c il ik ch ol ok) (hs : SmallC c) (hE : EnvW w) (hM : MTab w) :
  Calls Tryz.prog 8 #[argC c il ik ch ol ok] w fun e w' => Below w.heap.size w w' ∧ ∃ lv kv,e = .returned (.tuple #[arg (messageW c) lv kv,.int .i64 0]) ∧ ValIn w' (fun b => w.heap.size ≤ b) (messageW c) lv kv := by
 have h2 := write_any c il ik ch ol ok R w hc hs hE hM
 unfold WriteP at h2
 simp only [h,if_true] at h2
 exact h2
set_option maxHeartbeats 8000000 in
set_option maxRecDepth 20000 in
theorem alive_any (w : World) (hE : EnvW w) (hM : MTab w) :
  Calls Tryz.prog 7 #[] w fun e w' => e = .returned (.bool true) ∧ Below w.heap.size w w' := by
 have cR := Go.Proofs.YtcfdalbdndamoaaGreatDoor.V.read_any tL w (by decide) hE
 rw [readL] at cR
 have HE := Lib.hid hE
 have HM := Lib.hid hM
 clear hE hM
 go_enter Tryz.func7,Tryz.ntmps7
 go_wp2_with fail
 refine cR.mono ?_
 rintro e w1 ⟨hb1,lv,kv,rfl,hv1⟩
 have HV1 := Lib.hid hv1
 have hv2 := hv1
 obtain ⟨⟨v1,v2,rfl,_⟩,⟨v3,v4,rfl,_⟩⟩ := hv2
 have HB1 := Lib.hid hb1
 clear cR hv1 hb1
 rw [lenL.1,lenL.2] at HV1 ⊢
 simp only [six,strCell]
 obtain ⟨q1,hq1⟩ : ∃ q,w1.heap.size = q := ⟨_,rfl⟩
 go_upto_region 2 with fail
 obtain ⟨W2,hW2⟩ : ∃ W2,w1.alloc (.cells #[.int .i64 5,.bool false,.int .i64 0,.string ⟨#[]⟩,.slice v1 4 v2,.slice v3 4 v4] 36) = W2 := ⟨_,rfl⟩
 have hb12 : Below w1.heap.size w1 W2 := by rw [← hW2]; exact (Below.refl _ _).alloc (Nat.le_refl _) _
 have HX2 := Lib.hid (show W2.heap[q1]? = some (.cells #[.int .i64 5,.bool false,.int .i64 0,.string ⟨#[]⟩,.slice v1 4 v2,.slice v3 4 v4] 36 (0,0)) by rw [← hW2,← hq1]; exact heap_alloc_new _ _)
 have HB2 := Lib.hid (HB1.out.trans (hb12.mono HB1.out.size))
 have HV2 := Lib.hid (val_below HV1.out hb12)
 have hz2 : q1 < W2.heap.size := by rw [← hW2,← hq1]; simp
 (try rw [hW2])
 clear hW2 hb12 HB1 HV1
 have CR2 := Lib.hid (read_is readCL _ _ _ W2 HV2.out wtL1 (HE.out.later HB2.out) (HM.out.later HB2.out))
 obtain ⟨⟨k0,k1,k2,k3,k4,k5⟩,kf⟩ := cells_six HX2.out
 go_wp2_with fail
 refine CR2.out.mono ?_
 rintro e w3 ⟨hb3,il,ik,ch,ol,ok,rfl,hc3⟩
 have hz3 := hb3.size
 have hh1 := hc3.id
 have hh2 := hc3.other
 have hh3 := hc3.edits
 obtain ⟨⟨x1,x2,rfl,_⟩,⟨x3,x4,rfl,_⟩⟩ := hh1
 obtain ⟨⟨x7,x8,rfl,_⟩,⟨x9,x10,rfl,_⟩⟩ := hh2
 obtain ⟨x5,x6,rfl,_⟩ := hh3
 have CW := fun W (hb : Below w3.heap.size w3 W) (hE' : EnvW W) (hM' : MTab W) => write_is writesL _ _ _ _ _ _ W (hc3.bound.later (R' := fun g => W2.heap.size ≤ g ∧ g < w3.heap.size) (fun g hg hlt => hb.block g hlt) (fun _ h => h)) smallL hE' hM'
 rw [messL] at CW
 have eC : ∀ a b c d e f g h i j,argC cL (.slice a 0 b) (.slice c 0 d) (.slice e 0 f) (.slice g 0 h) (.slice i 0 j) = argC cL (.slice a 0 b) (.slice c 0 d) (.slice e 0 f) (.slice g 0 h) (.slice i 0 j) := fun _ _ _ _ _ _ _ _ _ _ => rfl
 simp only [argC,callC,cL,numP,zV,six',six,strCell,List.cons_append,List.nil_append,List.length_nil] at CW ⊢
 clear eC
 obtain ⟨V,hV⟩ : ∃ V,Value.agg #[.int .i64 7,.int .i64 2,.bool false,.int .i64 7,.string ⟨#[]⟩,.slice x1 0 x2,.slice x3 0 x4,.string ⟨#[97]⟩,.int .i64 0,.string ⟨#[]⟩,.slice x5 0 x6,.int .i64 3,.int .i64 4,.int .i64 0,.bool false,.int .i64 0,.string ⟨#[]⟩,.slice x7 0 x8,.slice x9 0 x10] = V := ⟨_,rfl⟩
 simp only [hV] at CW ⊢
 have CW2 := Lib.hid CW
 clear CW hc3 CR2 k0 k1 k2 k3 k4 k5 kf
 iterate 13 go_step
 refine wpList_storeV rfl rfl 43 (.tmp 3) (.tmp 16) rfl _ (store_as hV (heap_alloc_new _ _) rfl rfl (by kernel_rfl)) ?_
 obtain ⟨u,hu⟩ : ∃ u,w3.heap.size = u := ⟨_,rfl⟩
 obtain ⟨W4,hW4⟩ : ∃ W4,(w3.alloc (.cells #[.int .i64 0,.int .i64 0,.bool false,.int .i64 0,.string ⟨#[]⟩,.slice none 0 0,.slice none 0 0,.string ⟨#[]⟩,.int .i64 0,.string ⟨#[]⟩,.slice none 0 0,.int .i64 0,.int .i64 0,.int .i64 0,.bool false,.int .i64 0,.string ⟨#[]⟩,.slice none 0 0,.slice none 0 0] 43)).setRow w3.heap.size #[.int .i64 7,.int .i64 2,.bool false,.int .i64 7,.string ⟨#[]⟩,.slice x1 0 x2,.slice x3 0 x4,.string ⟨#[97]⟩,.int .i64 0,.string ⟨#[]⟩,.slice x5 0 x6,.int .i64 3,.int .i64 4,.int .i64 0,.bool false,.int .i64 0,.string ⟨#[]⟩,.slice x7 0 x8,.slice x9 0 x10] = W4 := ⟨_,rfl⟩
 have hb34 : Below w3.heap.size w3 W4 := by rw [← hW4]; exact Below.setRow' ((Below.refl _ _).alloc (Nat.le_refl _) _) (Nat.le_refl _) _
 have HU4 := Lib.hid (show Cs u #[.int .i64 7,.int .i64 2,.bool false,.int .i64 7,.string ⟨#[]⟩,.slice x1 0 x2,.slice x3 0 x4,.string ⟨#[97]⟩,.int .i64 0,.string ⟨#[]⟩,.slice x5 0 x6,.int .i64 3,.int .i64 4,.int .i64 0,.bool false,.int .i64 0,.string ⟨#[]⟩,.slice x7 0 x8,.slice x9 0 x10] W4 by rw [← hW4,← hu]; exact Cs.row (old := zeroC) (heap_alloc_new _ _) _)
 have hb24 : Below W2.heap.size W2 W4 := hb3.trans (hb34.mono hz3)
 have HB4 := Lib.hid (HB2.out.trans (hb24.mono HB2.out.size))
 have HX4 := Lib.hid ((hb24.block q1 hz2).trans HX2.out)
 have HV4 := Lib.hid (val_below HV2.out hb24)
 have CW4 := Lib.hid (CW2.out W4 hb34 (HE.out.later HB4.out) (HM.out.later HB4.out))
 have HL4 := Lib.hid (show (Instr.loadAt 43 (.pointer (some ⟨u,0,none⟩))).run Tryz.prog W4 = .ok V W4 from (HU4.out.load rfl).trans (by rw [hV]))
 have hz4 := HU4.out.lt
 clear hb3 hb34 hb24 CW2 HB2 HX2 HV2
 go_upto_region 3 with fail
 (try rw [hW4])
 (try rw [hu])
 clear hW4 hV
 iterate 1 go_step
 refine wpList_loadTab rfl _ _ rfl V HL4.out ?_
 clear HL4
 go_wp2_with fail
 refine CW4.out.mono ?_
 rintro e w5 ⟨hb5,dl,dk,rfl,hd5⟩
 have hz5 := hb5.size
 have hd5' := hd5
 obtain ⟨⟨d1,d2,rfl,_⟩,⟨d3,d4,rfl,_⟩⟩ := hd5'
 rw [lenL.1,lenL.2] at hd5 ⊢
 clear CW4
 have eV : ∀ a b c d,arg vL (.slice a 4 b) (.slice c 4 d) = .agg #[.int .i64 5,.bool false,.int .i64 0,.string ⟨#[]⟩,.slice a 4 b,.slice c 4 d] := fun _ _ _ _ => rfl
 simp only [eV]
 obtain ⟨q5,hq5⟩ : ∃ q,w5.heap.size = q := ⟨_,rfl⟩
 go_upto_region 4 with fail
 obtain ⟨W6,hW6⟩ : ∃ W6,w5.alloc (.cells #[.int .i64 5,.bool false,.int .i64 0,.string ⟨#[]⟩,.slice d1 4 d2,.slice d3 4 d4] 36) = W6 := ⟨_,rfl⟩
 have hb56 : Below w5.heap.size w5 W6 := by rw [← hW6]; exact (Below.refl _ _).alloc (Nat.le_refl _) _
 have hb46 : Below W4.heap.size W4 W6 := hb5.trans (hb56.mono hz5)
 have HX6 := Lib.hid ((hb46.block q1 (by omega)).trans HX4.out)
 have HY6 := Lib.hid (show W6.heap[q5]? = some (.cells #[.int .i64 5,.bool false,.int .i64 0,.string ⟨#[]⟩,.slice d1 4 d2,.slice d3 4 d4] 36 (0,0)) by rw [← hW6,← hq5]; exact heap_alloc_new _ _)
 have HB6 := Lib.hid (HB4.out.trans (hb46.mono HB4.out.size))
 have HV6 := Lib.hid (val_below HV4.out hb46)
 have HD6 := Lib.hid (val_below hd5 hb56)
 have HU6 := Lib.hid (HU4.out.below hb46)
 have hz6 : q5 < W6.heap.size := by rw [← hW6,← hq5]; simp
 have CZ := read_is readZ (.slice none 0 0) (.slice none 0 0) (fun _ => True) W6 (leaf_in _ _ _ _ _ _) (by decide) (HE.out.later HB6.out) (HM.out.later HB6.out)
 (try rw [hW6])
 clear hW6 hb5 hb56 hb46 HX4 HB4 HV4 HU4 hd5 eV
 rw [show arg zV (.slice none 0 0) (.slice none 0 0) = .agg #[.int .i64 0,.bool false,.int .i64 0,.string ⟨#[]⟩,.slice none 0 0,.slice none 0 0] from rfl] at CZ
 have CZH := Lib.hid CZ
 clear CZ
 go_wp2_with fail
 refine CZH.out.mono ?_
 rintro e w7 ⟨hb7,il,ik,ch,ol,ok,rfl,hc7⟩
 have hz7 := hb7.size
 have hh1 := hc7.id
 have hh2 := hc7.other
 have hh3 := hc7.edits
 obtain ⟨⟨y1,y2,rfl,_⟩,⟨y3,y4,rfl,_⟩⟩ := hh1
 obtain ⟨⟨y7,y8,rfl,_⟩,⟨y9,y10,rfl,_⟩⟩ := hh2
 obtain ⟨y5,y6,rfl,_⟩ := hh3
 clear CZH hc7
 simp only [argC,callC,call0,p0,zV,six',six,strCell,List.cons_append,List.nil_append,List.length_nil]
 obtain ⟨V2,hV2⟩ : ∃ V,Value.agg #[.int .i64 0,.int .i64 0,.bool false,.int .i64 0,.string ⟨#[]⟩,.slice y1 0 y2,.slice y3 0 y4,.string ⟨#[]⟩,.int .i64 0,.string ⟨#[]⟩,.slice y5 0 y6,.int .i64 0,.int .i64 0,.int .i64 0,.bool false,.int .i64 0,.string ⟨#[]⟩,.slice y7 0 y8,.slice y9 0 y10] = V := ⟨_,rfl⟩
 simp only [hV2]
 iterate 13 go_step
 refine wpList_storeV rfl rfl 43 (.tmp 7) (.tmp 26) rfl _ (store_as hV2 (heap_alloc_new _ _) rfl rfl (by kernel_rfl)) ?_
 obtain ⟨W8,hW8⟩ : ∃ W8,(w7.alloc (.cells #[.int .i64 0,.int .i64 0,.bool false,.int .i64 0,.string ⟨#[]⟩,.slice none 0 0,.slice none 0 0,.string ⟨#[]⟩,.int .i64 0,.string ⟨#[]⟩,.slice none 0 0,.int .i64 0,.int .i64 0,.int .i64 0,.bool false,.int .i64 0,.string ⟨#[]⟩,.slice none 0 0,.slice none 0 0] 43)).setRow w7.heap.size #[.int .i64 0,.int .i64 0,.bool false,.int .i64 0,.string ⟨#[]⟩,.slice y1 0 y2,.slice y3 0 y4,.string ⟨#[]⟩,.int .i64 0,.string ⟨#[]⟩,.slice y5 0 y6,.int .i64 0,.int .i64 0,.int .i64 0,.bool false,.int .i64 0,.string ⟨#[]⟩,.slice y7 0 y8,.slice y9 0 y10] = W8 := ⟨_,rfl⟩
 have hb78 : Below w7.heap.size w7 W8 := by rw [← hW8]; exact Below.setRow' ((Below.refl _ _).alloc (Nat.le_refl _) _) (Nat.le_refl _) _
 have hb68 : Below W6.heap.size W6 W8 := hb7.trans (hb78.mono hz7)
 have HX8 := Lib.hid ((hb68.block q1 (by omega)).trans HX6.out)
 have HY8 := Lib.hid ((hb68.block q5 (by omega)).trans HY6.out)
 have HB8 := Lib.hid (HB6.out.trans (hb68.mono HB6.out.size))
 have HU8 := Lib.hid (HU6.out.below hb68)
 have CS := Lib.hid (same_vals vL vL _ _ _ _ _ _ W8 (val_below HV6.out hb68) (val_below HD6.out hb68) wtL1 wtL2)
 clear hb7 hb78 hb68 HX6 HY6 HB6 HV6 HD6 HU6
 go_upto_region 5 with fail
 (try rw [hW8])
 clear hW8 hV2
 obtain ⟨⟨k0,k1,k2,k3,k4,k5⟩,kf⟩ := cells_six HX8.out
 obtain ⟨⟨j0,j1,j2,j3,j4,j5⟩,jf⟩ := cells_six HY8.out
 have u0 := HU8.out.cell 0
 have u3 := HU8.out.cell 3
 have u11 := HU8.out.cell 11
 simp only [List.getElem?_toArray,List.getElem?_cons_zero,List.getElem?_cons_succ] at u0 u3 u11
 have CS2 := CS.out
 rw [sameP_self] at CS2
 have eV : ∀ a b c d,arg vL (.slice a 4 b) (.slice c 4 d) = .agg #[.int .i64 5,.bool false,.int .i64 0,.string ⟨#[]⟩,.slice a 4 b,.slice c 4 d] := fun _ _ _ _ => rfl
 simp only [eV] at CS2
 have CSH := Lib.hid CS2
 clear CS CS2 eV
 go_wp2_with fail
 refine CSH.out.mono ?_
 rintro e w9 ⟨rfl,hb9⟩
 have HB9 := Lib.hid (HB8.out.trans (hb9.mono HB8.out.size))
 clear CSH hb9 k0 k1 k2 k3 k4 k5 kf j0 j1 j2 j3 j4 j5 jf u0 u3 u11
 go_wp2_with fail
 refine (code_any 233 w9).mono ?_
 rintro e w10 ⟨rfl,rfl⟩
 rw [show codeN 233 = -32800 from rfl]
 go_wp2_with fail
 go_ret
 exact ⟨rfl,HB9.out⟩
end Go.Proofs.YtcfdalbdndamoaaGreatDoor.M
