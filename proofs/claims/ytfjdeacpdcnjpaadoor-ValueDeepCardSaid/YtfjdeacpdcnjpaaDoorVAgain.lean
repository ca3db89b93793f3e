/- The law ValueAgain's walk. -/
import Derived.Test.YtfjdeacpdcnjpaaDoorVBits
namespace Go.Proofs.YtfjdeacpdcnjpaaDoor.V
open Go.RowKit
open Go.Lib

set_option maxHeartbeats 4000000 in
theorem again_long (s : ByteArray) (bl : Int) (w : World) (hs : 400 < s.size) (hE : EnvW w) :
    Calls Tryd.prog 4 #[.string s, .int .i64 bl] w fun e w' => e = .returned (.bool true) ∧ Below w.heap.size w w' := by
  have cA := alive_any w hE
  clear hE
  go_enter Tryd.func4, Tryd.ntmps4
  go_wp2_with fail
  refine cA.mono ?_
  rintro e w1 ⟨rfl, hb1⟩
  clear cA
  go_wp2_with fail
  go_ret
  exact ⟨rfl, hb1⟩

theorem wt_zero : wt (.mk 0 false 0 [] [] []) ≤ 1099511627776 := by decide +kernel
theorem valIn_zero (W : World) (R : Nat → Prop) : ValIn W R (.mk 0 false 0 [] [] []) (.slice none 0 0) (.slice none 0 0) := ⟨⟨none, 0, rfl, .inl rfl⟩, ⟨none, 0, rfl, .inl rfl⟩⟩
theorem same_zero : sameTop (.mk 0 false 0 [] [] []) (.mk 0 false 0 [] [] []) = true := by decide +kernel


theorem same_zeros (W : World) : Calls Tryd.prog 12 #[.agg #[.int .i64 0, .bool false, .int .i64 0, .string ⟨#[]⟩, .slice none 0 0, .slice none 0 0], .agg #[.int .i64 0, .bool false, .int .i64 0, .string ⟨#[]⟩, .slice none 0 0, .slice none 0 0]] W fun e w' => e = .returned (.bool true) ∧ Below W.heap.size W w' := by
  have h := same_top 0 0 false false 0 0 [] [] [] [] [] [] (.slice none 0 0) (.slice none 0 0) (.slice none 0 0) (.slice none 0 0) (fun _ => True) (fun _ => True) W (valIn_zero W _) (valIn_zero W _) wt_zero wt_zero
  rw [same_zero] at h
  exact h
theorem four_cut (m : Nat) (hm : m < 4) : ∃ c : UInt8, (⟨#[32, 9, 10, 13]⟩ : ByteArray).extract m (m + 1) = ⟨#[c]⟩ ∧ (c = 32 ∨ c = 9 ∨ c = 10 ∨ c = 13) := by
  have : m = 0 ∨ m = 1 ∨ m = 2 ∨ m = 3 := by omega
  rcases this with rfl | rfl | rfl | rfl
  · exact ⟨32, by decide +kernel, .inl rfl⟩
  · exact ⟨9, by decide +kernel, .inr (.inl rfl)⟩
  · exact ⟨10, by decide +kernel, .inr (.inr (.inl rfl))⟩
  · exact ⟨13, by decide +kernel, .inr (.inr (.inr rfl))⟩
/-- The blank that an int chooses. -/
theorem blank_cut (bl : Int) : ∃ (m : Nat) (c : UInt8), bits .and .i64 bl 3 = m ∧ m < 4 ∧ (c = 32 ∨ c = 9 ∨ c = 10 ∨ c = 13) ∧
    ∀ W, (Instr.slice 9 (.string ⟨#[32, 9, 10, 13]⟩) (some (.int .i64 m)) (some (.int .i64 ((m : Int) + 1))) none).run Tryd.prog W = .ok (.string ⟨#[c]⟩) W := by
  have hm4 : (bl % 4).toNat < 4 := by omega
  obtain ⟨c, hc, hb⟩ := four_cut (bl % 4).toNat hm4
  have hs : (⟨#[32, 9, 10, 13]⟩ : ByteArray).size = 4 := rfl
  refine ⟨(bl % 4).toNat, c, by rw [i64_and3]; omega, hm4, hb, fun W => ?_⟩
  rw [run_slice_string W _ _ _ _ _ _ Tryd.underlying9 (by omega) (by omega) (by rw [hs]; omega)]
  have e1 : (((bl % 4).toNat : Int)).toNat = (bl % 4).toNat := by omega
  have e2 : (((bl % 4).toNat : Int) + 1).toNat = (bl % 4).toNat + 1 := by omega
  rw [e1, e2, hc]
theorem blanks_about (c : UInt8) (hc : c = 32 ∨ c = 9 ∨ c = 10 ∨ c = 13) (s : ByteArray) : readB ((⟨#[c]⟩ : ByteArray) ++ s ++ (⟨#[c]⟩ : ByteArray)) = readB s := by
  have e : (⟨#[c]⟩ : ByteArray) ++ s ++ (⟨#[c]⟩ : ByteArray) = ⟨(c :: (s.data.toList ++ [c])).toArray⟩ := by
    apply ByteArray.ext
    simp
  rw [e, readB_blanks hc]

set_option maxRecDepth 20000 in
set_option maxHeartbeats 4000000 in
theorem again_bad (s : ByteArray) (bl : Int) (w : World) (hs : s.size ≤ 400) (k : Int) (hk : k ≠ 0) (hr : readB s = .error k) (hE : EnvW w) :
    Calls Tryd.prog 4 #[.string s, .int .i64 bl] w fun e w' => e = .returned (.bool true) ∧ Below w.heap.size w w' := by
  have cR := read_any s w (by omega) hE
  rw [hr] at cR
  have HE := Lib.hid hE
  obtain ⟨m, c, hm, hm4, hcb, hsl⟩ := blank_cut bl
  obtain ⟨S5, hS5⟩ : ∃ S5, (⟨#[c]⟩ : ByteArray) ++ s ++ (⟨#[c]⟩ : ByteArray) = S5 := ⟨_, rfl⟩
  have hS5s : S5.size = s.size + 2 := by rw [← hS5, ByteArray.size_append, ByteArray.size_append, show (⟨#[c]⟩ : ByteArray).size = 1 from rfl]; omega
  have cR2 : ∀ W, Below w.heap.size w W → Calls Tryd.prog 11 #[.string S5] W (ReadsTop (.error k) W) := fun W hb => by
    have := read_any S5 W (by omega) (hE.later hb)
    rw [← hS5, blanks_about c hcb, hr, hS5] at this
    exact this
  have HR2 := Lib.hid cR2
  clear hE hr cR2 hcb
  go_enter Tryd.func4, Tryd.ntmps4
  generalize (⟨#[32, 9, 10, 13]⟩ : ByteArray) = S4 at hsl ⊢
  go_wp2_with fail
  refine cR.mono ?_
  rintro e w1 ⟨hb1, rfl⟩
  have HB1 := Lib.hid hb1
  clear cR hb1
  simp only [six, strCell]
  go_wp2_with fail
  refine (HR2.out _ (HB1.out.alloc HB1.out.size _)).mono ?_
  rintro e w2 ⟨hb2, rfl⟩
  have hz2 := hb2.size
  simp only [World.size_alloc] at hz2
  have hblk := (hb2.block w1.heap.size (by simp)).trans (heap_alloc_new w1 _)
  obtain ⟨⟨k0, k1, k2, k3, k4, k5⟩, kf⟩ := cells_six ((Below.heap_alloc w2 (.cells #[.int .i64 0, .bool false, .int .i64 0, .string ⟨#[]⟩, .slice none 0 0, .slice none 0 0] 34) w1.heap.size (by omega)).trans hblk)
  have HB2 := Lib.hid ((HB1.out.alloc HB1.out.size _).trans (hb2.mono (by have := HB1.out.size; simp; omega)))
  clear hb2 hblk
  simp only [six, strCell]
  go_wp2_with fail
  refine (same_zeros _).mono ?_
  rintro e w3 ⟨rfl, hb3⟩
  have HB3 := Lib.hid ((HB2.out.alloc HB2.out.size _).trans (hb3.mono (by have := HB2.out.size; simp; omega)))
  have cA := alive_any w3 (HE.out.later HB3.out)
  clear hb3 k0 k1 k2 k3 k4 k5 kf
  go_wp2_with fail
  refine cA.mono ?_
  rintro e w4 ⟨rfl, hb4⟩
  have HB4 := Lib.hid (HB3.out.trans (hb4.mono HB3.out.size))
  clear hb4 cA
  go_wp2_with fail
  go_ret
  exact ⟨rfl, HB4.out⟩

/-- A value's cells, its parts at a1, its keys at a2. -/
def cellsV (so : Int) (on : Bool) (n : Int) (t : List UInt8) (m1 m2 : Nat) (a1 a2 : Option Addr) (c1 c2 : Nat) : Array Value := #[.int .i64 so, .bool on, .int .i64 n, .string ⟨t.toArray⟩, .slice a1 m1 c1, .slice a2 m2 c2]

section
variable {so n : Int} {on : Bool} {t : List UInt8} {l : List Val} {ks : List (List UInt8)}
theorem read_v {S : ByteArray} (hr : readB S = .ok (.mk so on n t l ks)) (hS : S.size ≤ 274877906944) (W : World) (hE : EnvW W) :
    Calls Tryd.prog 11 #[.string S] W fun e w' => Below W.heap.size W w' ∧ ∃ a1 c1 a2 c2, e = .returned (.tuple #[.agg #[.int .i64 so, .bool on, .int .i64 n, .string ⟨t.toArray⟩, .slice a1 l.length c1, .slice a2 ks.length c2], .int .i64 0]) ∧ ValIn w' (fun g => W.heap.size ≤ g) (.mk so on n t l ks) (.slice a1 l.length c1) (.slice a2 ks.length c2) := by
  have h := read_any S W hS hE
  rw [hr] at h
  refine h.mono ?_
  rintro e w' ⟨hb, lv, kv, rfl, hv⟩
  have hv2 := hv
  obtain ⟨⟨a1, c1, rfl, _⟩, ⟨a2, c2, rfl, _⟩⟩ := hv2
  exact ⟨hb, a1, c1, a2, c2, rfl, hv⟩
theorem same_v2 (hw : wt (.mk so on n t l ks) ≤ 65536) (W : World) (R R' : Nat → Prop) (a1 a2 b1 b2 : Option Addr) (c1 c2 d1 d2 : Nat) (h : ValIn W R (.mk so on n t l ks) (.slice a1 l.length c1) (.slice a2 ks.length c2)) (h' : ValIn W R' (.mk so on n t l ks) (.slice b1 l.length d1) (.slice b2 ks.length d2)) :
    Calls Tryd.prog 12 #[.agg #[.int .i64 so, .bool on, .int .i64 n, .string ⟨t.toArray⟩, .slice a1 l.length c1, .slice a2 ks.length c2], .agg #[.int .i64 so, .bool on, .int .i64 n, .string ⟨t.toArray⟩, .slice b1 l.length d1, .slice b2 ks.length d2]] W fun e w' => e = .returned (.bool true) ∧ Below W.heap.size W w' := by
  have hs := same_top so so on on n n t t l l ks ks _ _ _ _ R R' W h h' (by omega) (by omega)
  have e : sameTop (.mk so on n t l ks) (.mk so on n t l ks) = true := by
    unfold sameTop
    rw [nestP_wt _ _ hw, sameP_self]; rfl
  rw [e] at hs
  exact hs
theorem write_v2 (hr : rightTop (.mk so on n t l ks) = true) (hw : wt (.mk so on n t l ks) ≤ 1099511627776) (W : World) (R : Nat → Prop) (a1 a2 : Option Addr) (c1 c2 : Nat) (h : ValIn W R (.mk so on n t l ks) (.slice a1 l.length c1) (.slice a2 ks.length c2)) (hE : EnvW W) :
    Calls Tryd.prog 8 #[.agg #[.int .i64 so, .bool on, .int .i64 n, .string ⟨t.toArray⟩, .slice a1 l.length c1, .slice a2 ks.length c2]] W fun e w' => e = .returned (.tuple #[.string ⟨(write (.mk so on n t l ks)).toArray⟩, .int .i64 0]) ∧ Below W.heap.size W w' := by
  have hrp : rightP (.mk so on n t l ks) = true := by simp only [rightTop, Bool.and_eq_true] at hr; exact hr.2
  have hl := write_le _ hrp
  refine (write_top so on n t l ks _ _ R W h hw (by omega) hE).mono ?_
  rintro e w' ⟨h1, h2⟩
  rw [hr, if_pos rfl] at h2
  exact ⟨h2, h1⟩
theorem right_v2 (W : World) (R : Nat → Prop) (hw : wt (.mk so on n t l ks) ≤ 1099511627776) (a1 a2 : Option Addr) (c1 c2 : Nat) (h : ValIn W R (.mk so on n t l ks) (.slice a1 l.length c1) (.slice a2 ks.length c2)) (hE : EnvW W) :
    Calls Tryd.prog 10 #[.agg #[.int .i64 so, .bool on, .int .i64 n, .string ⟨t.toArray⟩, .slice a1 l.length c1, .slice a2 ks.length c2]] W fun e w' => e = .returned (.bool (rightTop (.mk so on n t l ks))) ∧ Below W.heap.size W w' :=
  right_top so on n t l ks _ _ R W h hw hE
end

theorem val_below {W W' : World} {R : Nat → Prop} {v : Val} {lv kv : Value} (h : ValIn W R v lv kv) (hb : Below W.heap.size W W') : ValIn W' R v lv kv := h.later (fun b _ hlt => hb.block b hlt) (fun _ h => h) _ _ _

set_option maxRecDepth 20000 in
set_option maxHeartbeats 8000000 in
theorem again_good (s : ByteArray) (bl : Int) (w : World) (hs : s.size ≤ 400) (so n : Int) (on : Bool) (t : List UInt8) (l : List Val) (ks : List (List UInt8)) (hr : readB s = .ok (.mk so on n t l ks)) (hE : EnvW w) :
    Calls Tryd.prog 4 #[.string s, .int .i64 bl] w fun e w' => e = .returned (.bool true) ∧ Below w.heap.size w w' := by
  have hwt := readB_wt hr
  have hrt := readB_right hr
  have hrp : rightP (.mk so on n t l ks) = true := by simp only [rightTop, Bool.and_eq_true] at hrt; exact hrt.2
  have hwl := write_le _ hrp
  have hbk := readB_write _ hrt
  have cR := read_v hr (by omega) w hE
  obtain ⟨m, c, hm, hm4, hcb, hsl⟩ := blank_cut bl
  obtain ⟨S5, hS5⟩ : ∃ S5, (⟨#[c]⟩ : ByteArray) ++ s ++ (⟨#[c]⟩ : ByteArray) = S5 := ⟨_, rfl⟩
  have hS5s : S5.size = s.size + 2 := by rw [← hS5, ByteArray.size_append, ByteArray.size_append, show (⟨#[c]⟩ : ByteArray).size = 1 from rfl]; omega
  have hr5 : readB S5 = .ok (.mk so on n t l ks) := by rw [← hS5, blanks_about c hcb, hr]
  obtain ⟨S6, hS6⟩ : ∃ S6 : ByteArray, (⟨(write (.mk so on n t l ks)).toArray⟩ : ByteArray) = S6 := ⟨_, rfl⟩
  have hS6s : S6.size = (write (.mk so on n t l ks)).length := by rw [← hS6]; rfl
  rw [hS6] at hbk
  have HR5 := Lib.hid (fun W (h : EnvW W) => read_v hr5 (by omega) W h)
  have HR6 := Lib.hid (fun W (h : EnvW W) => read_v hbk (by omega) W h)
  have HS := Lib.hid (@same_v2 so n on t l ks (by omega))
  have HWR := Lib.hid (fun W R a1 a2 c1 c2 h h2 => hS6 ▸ @write_v2 so n on t l ks hrt (by omega) W R a1 a2 c1 c2 h h2)
  have HRT := Lib.hid (fun W R a1 a2 c1 c2 h h2 => hrt ▸ @right_v2 so n on t l ks W R (by omega) a1 a2 c1 c2 h h2)
  have HE := Lib.hid hE
  generalize l.length = m1 at *
  generalize ks.length = m2 at *
  clear hE hr hcb hwt hrt hrp hwl hbk hr5 hS6s hS6
  go_enter Tryd.func4, Tryd.ntmps4
  generalize (⟨#[32, 9, 10, 13]⟩ : ByteArray) = S4 at hsl ⊢
  go_wp2_with fail
  refine cR.mono ?_
  rintro e w1 ⟨hb1, a1, c1, a2, c2, rfl, hv1⟩
  have HB1 := Lib.hid hb1
  have HV1 := Lib.hid hv1
  clear cR hb1 hv1
  go_wp2_with fail
  refine (HR5.out _ (HE.out.later (HB1.out.alloc HB1.out.size _))).mono ?_
  rintro e w2 ⟨hb2, b1, d1, b2, d2, rfl, hv2⟩
  have hz2 := hb2.size
  simp only [World.size_alloc] at hz2
  have hblk := (hb2.block w1.heap.size (by simp)).trans (heap_alloc_new w1 _)
  obtain ⟨⟨k0, k1, k2, k3, k4, k5⟩, kf⟩ := cells_six ((Below.heap_alloc w2 (.cells #[.int .i64 so, .bool on, .int .i64 n, .string ⟨t.toArray⟩, .slice b1 m1 d1, .slice b2 m2 d2] 34) w1.heap.size (by omega)).trans hblk)
  have HBLK := Lib.hid hblk
  have hb12 : Below w1.heap.size w1 w2 := ((Below.refl _ _).alloc (Nat.le_refl _) _).trans (hb2.mono (by simp))
  have HV1b := Lib.hid (val_below HV1.out hb12)
  have HV2 := Lib.hid hv2
  have HB2 := Lib.hid (HB1.out.trans (hb12.mono HB1.out.size))
  clear hb2 hblk hb12 hv2
  go_wp2_with fail
  have hal : ∀ ob, Below w2.heap.size w2 (w2.alloc ob) := fun ob => (Below.refl _ _).alloc (Nat.le_refl _) ob
  refine (HS.out _ _ _ _ _ _ _ _ _ _ _ (val_below HV1b.out (hal _)) (val_below HV2.out (hal _))).mono ?_
  rintro e w3 ⟨rfl, hb3⟩
  have hw23 : Below w2.heap.size w2 w3 := (hal _).trans (hb3.mono (by simp))
  have hblk3 := (hw23.block w1.heap.size (by omega)).trans HBLK.out
  have HBLK3 := Lib.hid hblk3
  have HV3 := Lib.hid (val_below HV1b.out hw23)
  have HB3 := Lib.hid (HB2.out.trans (hw23.mono HB2.out.size))
  have hz3 := hw23.size
  clear k0 k1 k2 k3 k4 k5 kf hal hb3 hw23
  obtain ⟨⟨k0, k1, k2, k3, k4, k5⟩, kf⟩ := cells_six hblk3
  clear hblk3
  go_wp2_with fail
  refine (HWR.out _ _ _ _ _ _ HV3.out (HE.out.later HB3.out)).mono ?_
  rintro e w4 ⟨rfl, hb4⟩
  have HB4 := Lib.hid (HB3.out.trans (hb4.mono HB3.out.size))
  have HBLK4 := Lib.hid ((hb4.block w1.heap.size (by omega)).trans HBLK3.out)
  have HV4 := Lib.hid (val_below HV3.out hb4)
  have hz4 := hb4.size
  clear k0 k1 k2 k3 k4 k5 kf hb4
  go_wp2_with fail
  refine (HR6.out _ (HE.out.later HB4.out)).mono ?_
  rintro e w5 ⟨hb5, e1, f1, e2, f2, rfl, hv5⟩
  have HB5 := Lib.hid (HB4.out.trans (hb5.mono HB4.out.size))
  have HBLK5 := Lib.hid ((hb5.block w1.heap.size (by omega)).trans HBLK4.out)
  have HV5 := Lib.hid (val_below HV4.out hb5)
  have HU5 := Lib.hid hv5
  have hz5 := hb5.size
  clear hb5 hv5
  go_wp2_with fail
  have hb5a : Below w5.heap.size w5 (w5.alloc (.cells #[.int .i64 so, .bool on, .int .i64 n, .string ⟨t.toArray⟩, .slice e1 m1 f1, .slice e2 m2 f2] 34)) := (Below.refl _ _).alloc (Nat.le_refl _) _
  refine (alive_any _ (HE.out.later (HB5.out.trans (hb5a.mono HB5.out.size)))).mono ?_
  rintro e w6 ⟨rfl, hb6⟩
  have hw56 : Below w5.heap.size w5 w6 := hb5a.trans (hb6.mono (by simp))
  have hblk6 := (hw56.block w1.heap.size (by omega)).trans HBLK5.out
  have hnew6 := (hb6.block w5.heap.size (by simp)).trans (heap_alloc_new w5 _)
  have HB6 := Lib.hid (HB5.out.trans (hw56.mono HB5.out.size))
  have HV6 := Lib.hid (val_below HV5.out hw56)
  have HU6 := Lib.hid (val_below HU5.out hw56)
  have HBLK6 := Lib.hid hblk6
  have HNEW6 := Lib.hid hnew6
  have hz6 := hb6.size
  simp only [World.size_alloc] at hz6
  obtain ⟨⟨k0, k1, k2, k3, k4, k5⟩, kf⟩ := cells_six hblk6
  clear hb6 hb5a hw56 hblk6 hnew6
  go_wp2_with fail
  refine (HRT.out _ _ _ _ _ _ HV6.out (HE.out.later HB6.out)).mono ?_
  rintro e w7 ⟨rfl, hb7⟩
  have hblk7 := (hb7.block w1.heap.size (by omega)).trans HBLK6.out
  have hnew7 := (hb7.block w5.heap.size (by omega)).trans HNEW6.out
  have HB7 := Lib.hid (HB6.out.trans (hb7.mono HB6.out.size))
  have HV7 := Lib.hid (val_below HV6.out hb7)
  have HU7 := Lib.hid (val_below HU6.out hb7)
  clear k0 k1 k2 k3 k4 k5 kf hb7
  obtain ⟨⟨k0, k1, k2, k3, k4, k5⟩, kf⟩ := cells_six hblk7
  obtain ⟨⟨j0, j1, j2, j3, j4, j5⟩, jf⟩ := cells_six hnew7
  clear hblk7 hnew7
  go_wp2_with fail
  refine (HS.out _ _ _ _ _ _ _ _ _ _ _ HV7.out HU7.out).mono ?_
  rintro e w8 ⟨rfl, hb8⟩
  have HB8 := Lib.hid (HB7.out.trans (hb8.mono HB7.out.size))
  clear k0 k1 k2 k3 k4 k5 kf j0 j1 j2 j3 j4 j5 jf hb8
  go_wp2_with fail
  go_ret
  exact ⟨rfl, HB8.out⟩

theorem readB_pos {s : ByteArray} {k : Int} (h : readB s = .error k) : k ≠ 0 := by
  unfold readB at h
  split at h
  · unfold readP at h
    split at h
    · injection h with h; omega
    · injection h with h; omega
    · cases h
    · injection h with h; omega
  · injection h with h; omega
theorem again_walk (s : ByteArray) (bl : Int) (w : World) (hE : EnvW w) :
    Calls Tryd.prog 4 #[.string s, .int .i64 bl] w fun e w' => e = .returned (.bool true) ∧ Below w.heap.size w w' := by
  by_cases hs : 400 < s.size
  · exact again_long s bl w hs hE
  · cases hr : readB s with
    | error k => exact again_bad s bl w (by omega) k (readB_pos hr) hr hE
    | ok v =>
      obtain ⟨so, on, n, t, l, ks⟩ := v
      exact again_good s bl w (by omega) so n on t l ks hr hE
end Go.Proofs.YtfjdeacpdcnjpaaDoor.V
