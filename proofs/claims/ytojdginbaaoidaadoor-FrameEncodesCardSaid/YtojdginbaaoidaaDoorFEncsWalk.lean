/- The law FrameEncodes's walk. -/
import Derived.Test.YtojdginbaaoidaaDoorFRef
import Derived.Laws.OwnMore
namespace Go.Proofs.YtojdginbaaoidaaDoor.F
open Go.RowKit
open Go.Lib

theorem encs_short (a : Option Addr) (cap : Nat) (l : List (List UInt8)) (c : Int) (w : World) (hl : TextsAt w a l) (hn : l.length ≤ 17592186044416) (hs : ∀ x ∈ l, x.length ≤ 1125899906842624) (hE : EnvF w) (hno : fitsB l = false) :
    Calls Tryd.prog 3 #[.slice a l.length cap, .int .u8 c] w fun e w' => e = .returned (.bool true) ∧ Below w.heap.size w w' := by
  have cF := fits_any a cap l w hl hn hs
  have cA := alive_any w hE
  rw [hno] at cF
  clear hE hs hl hno
  go_enter Tryd.func3, Tryd.ntmps3
  go_wp2_with fail
  refine cF.mono ?_
  rintro e w1 ⟨rfl, rfl⟩
  clear cF
  go_wp2_with fail
  refine cA.mono ?_
  rintro e w1 ⟨rfl, hb1⟩
  clear cA
  go_wp2_with fail
  go_ret
  exact ⟨rfl, hb1⟩

theorem zeros_made (nn : Nat) (h : nn = 65537) : ∃ Z : List UInt8, Z.length = 65536 ∧ (madeCells #[Value.int .u8 0] nn).toList = Lib.byteCells (0 :: Z) := by
  subst h
  refine ⟨List.replicate 65536 0, List.length_replicate, ?_⟩
  rw [toList_madeCells_one]
  unfold Lib.byteCells
  rw [List.map_cons, List.map_replicate]
  show List.replicate (65536 + 1) _ = _
  rw [List.replicate_succ]
  rfl
theorem cells_put {w : World} {g : Nat} {x c : UInt8} {Z : List UInt8} (h : CellsAt w g 0 (x :: Z)) : CellsAt (w.setCell ⟨g, 0, none⟩ (.int .u8 (c.toNat : Int))) g 0 (c :: Z) := by
  intro j hj
  cases j with
  | zero =>
    have h0 := h 0 (by simp)
    exact World.cell?_setCell_same' w _ _ (by rw [show (⟨g, 0, none⟩ : Addr) = ⟨g, 0 + 0, none⟩ from rfl, h0]; rfl)
  | succ j =>
    have h1 := h (j + 1) (by simpa using hj)
    refine (World.cell?_setCell_other w _ _ _ ?_).trans h1
    intro e
    have := congrArg Addr.off e
    simp at this
theorem conv_cells {w : World} {g o : Nat} {l : List UInt8} (h : CellsAt w g o l) (n cap : Nat) (hn : n = l.length) : (convert 29 9 (.slice (some ⟨g, o, none⟩) n cap)).run Tryd.prog w = .ok (.string ⟨l.toArray⟩) w := by
  subst hn
  exact run_convert_bytes_back w _ _ 5 ⟨g, o, none⟩ cap l Tryd.underlying29 Tryd.underlying5 Tryd.underlying9 (fun j hj => by rw [Addr.add_lit]; exact h j hj)
theorem dec65536 : (decDigits 65536).length = 5 := by decide +kernel

set_option maxRecDepth 20000 in
set_option maxHeartbeats 8000000 in
theorem encs_long (a : Option Addr) (cap : Nat) (l : List (List UInt8)) (c : UInt8) (w : World) (hl : TextsAt w a l) (hn : l.length ≤ 17592186044416) (hs : ∀ x ∈ l, x.length ≤ 1125899906842624) (hE : EnvF w) (hfit : fitsB l = true) :
    Calls Tryd.prog 3 #[.slice a l.length cap, .int .u8 (c.toNat : Int)] w fun e w' => e = .returned (.bool true) ∧ Below w.heap.size w w' := by
  have cF := fits_any a cap l w hl hn hs
  rw [hfit] at cF
  have hf := fits_iff hfit
  have hx : ∀ x ∈ l, x.length ≤ 65536 := fun x h => by have := sumL_mem h; omega
  have hok : okL l = true := (okL_iff l).2 hx
  have hel := encL_le l hx
  have cE := encode_any a cap l w hl (by omega) (by omega) hE
  have cR := fun W (hb : Below w.heap.size w W) => refEncode_any a cap l W (hl.later hb) (by omega) (by omega)
  unfold Encodes at cE cR
  rw [hok] at cE
  simp only [hok] at cR
  simp only [if_true] at cE cR
  generalize encL l = T at cE cR
  have HR := Lib.hid cR
  have HE := Lib.hid hE
  obtain ⟨i0, hi0, hz0, hz1, hz2⟩ := info_parts infoB
  clear hl hE hfit hs hf hx hok hel cR
  go_enter Tryd.func3, Tryd.ntmps3
  generalize hbig : (65537 : Int) = big
  generalize hsum : (65561 : Int) = l61
  obtain ⟨nn, hnn⟩ : ∃ nn : Nat, big = nn := ⟨65537, by omega⟩
  subst hnn
  have HNN := Lib.hid (show nn = 65537 by omega)
  have HSUM := Lib.hid hsum
  have hn1 : ¬ nn = 1 := by omega
  have hn2 : 2 ≤ nn := by omega
  have hn3 : nn ≤ 1000000 := by omega
  obtain ⟨Z, hZl, hZ⟩ := zeros_made nn (by omega)
  have HZL := Lib.hid hZl
  have HZ := Lib.hid hZ
  clear hbig hsum hZl hZ
  go_wp2_with fail
  refine cF.mono ?_
  rintro e w0 ⟨rfl, rfl⟩
  clear cF
  go_wp2_with fail
  refine cE.mono ?_
  rintro e w1 ⟨rfl, hb1⟩
  have cR := HR.out w1 hb1
  have HB1 := Lib.hid hb1
  clear cE hb1
  go_wp2_with fail
  refine cR.mono ?_
  rintro e w2 ⟨rfl, hb2⟩
  have HB2 := Lib.hid (HB1.out.trans (hb2.mono HB1.out.size))
  clear cR hb2
  go_wp2_with (at_make; refine wpList_make_full _ rfl _ _ 29 rfl w2.heap.size 5 i0 (.int .u8 0) 1 Tryd.underlying29 hi0 hz0 hz1 .i64 .i64 _ _ nn rfl rfl rfl rfl (by rw [hz2]; omega) (by unfold maxLen; omega) (Nat.le_refl _) ?_)
  intro w3 hown3 hg3
  rw [HZ.out] at hown3
  have hzl : (0 :: Z).length = nn := by rw [List.length_cons, HZL.out]; have := HNN.out; omega
  have hrow : w3.ownsRow w2.heap.size 5 1 (.slice (some ⟨w2.heap.size, 0, none⟩) (0 :: Z).length nn) (0 :: Z).length (Lib.byteCells (0 :: Z)) := by rw [hzl]; exact hown3
  have hcl := row_lies hrow
  have k0 : w3.cell? ⟨w2.heap.size, 0, none⟩ = some (.int .u8 0) := hcl 0 (by simp)
  have k1 : w3.frozen? ⟨w2.heap.size, 0, none⟩ = false := by
    obtain ⟨cur, hc⟩ := owns_block hrow (k := w2.heap.size) rfl
    unfold World.frozen?
    rw [hc]; simp
  have hgl : w2.heap.size < w3.heap.size := lt_of_cell k0
  have hc4 := cells_put (c := c) hcl
  have HW3 := Lib.hid (Below.mono (B := w2.heap.size) (B' := w2.heap.size) ⟨hg3.os, hg3.tape, hg3.output, hg3.size, fun k hk => hg3.block k hk (by simp)⟩ (Nat.le_refl _))
  obtain ⟨w4, hw4⟩ : ∃ w4, w3.setCell ⟨w2.heap.size, 0, none⟩ (.int .u8 (c.toNat : Int)) = w4 := ⟨_, rfl⟩
  rw [hw4] at hc4
  have hz4 : w4.heap.size = w3.heap.size := by rw [← hw4]; simp
  have hb24 : Below w2.heap.size w2 w4 := by
    rw [← hw4]
    refine HW3.out.trans ⟨rfl, rfl, rfl, by simp, fun k hk => ?_⟩
    exact Below.heap_setCell _ _ _ _ (fun e => by have e2 : k = w2.heap.size := e; omega)
  have hZ1 : CellsAt w4 w2.heap.size 1 Z := by
    have := hc4.drop 1
    rw [Nat.zero_add] at this
    exact this
  have hcv1 := conv_cells hZ1 (nn - 1) (nn - 1) (by have := HNN.out; have := HZL.out; omega)
  have HC4 := Lib.hid hc4
  have HB4 := Lib.hid (HB2.out.trans (hb24.mono HB2.out.size))
  have hgl4 : w2.heap.size < w4.heap.size := by omega
  have cE1 : Calls Tryd.prog 10 #[.slice (some ⟨w4.heap.size, 0, none⟩) 1 1] (w4.alloc (.cells #[.string ⟨Z.toArray⟩] 9)) (Encodes [Z] (w4.alloc (.cells #[.string ⟨Z.toArray⟩] 9))) := by
    have hl := encL_le [Z] (fun x hx => by simp only [List.mem_singleton] at hx; subst hx; rw [HZL.out]; exact Nat.le_refl _)
    have hs1 : sumL [Z] = Z.length := by simp [sumL]
    rw [hs1, HZL.out] at hl
    refine encode_any (some ⟨w4.heap.size, 0, none⟩) 1 [Z] _ (.inr ⟨_, 0, rfl, fun j hj => ?_⟩) (by simp only [List.length_singleton] at hl; omega) (by simp) (HE.out.later (HB4.out.alloc HB4.out.size _))
    have hj2 : j < 1 := hj
    obtain rfl : j = 0 := by omega
    unfold World.cell?; simp only [heap_alloc_new]; rfl
  obtain ⟨U, hU⟩ : ∃ U, encL [Z] = U := ⟨_, rfl⟩
  have hUl : U.length = 65561 := by
    rw [← hU]
    simp only [encL, List.length_append, List.length_nil, headL_length, HZL.out, dec65536]
  have hok1 : okL [Z] = true := (okL_iff _).2 (fun x hx => by simp only [List.mem_singleton] at hx; subst hx; rw [HZL.out]; exact Nat.le_refl _)
  unfold Encodes at cE1
  rw [hok1, hU] at cE1
  simp only [if_true] at cE1
  have hUs : ((⟨U.toArray⟩ : ByteArray).size : Int) = l61 := by rw [← HSUM.out]; show ((U.length : Nat) : Int) = _; rw [hUl]; rfl
  have hUL : ((U.length : Nat) : Int) = l61 := by rw [← HSUM.out, hUl]; rfl
  have HZ4 := Lib.hid hz4
  clear hown3 hrow hcl hg3 hc4 hU hok1 hUl hZ1 hb24 hz4
  go_wp2_with fail
  refine cE1.mono ?_
  rintro e w5 ⟨rfl, hb5⟩
  have hb45 : Below w4.heap.size w4 w5 := ((Below.refl _ _).alloc (Nat.le_refl _) _).trans (hb5.mono (by simp))
  have hc5 := HC4.out.later (hb45.block w2.heap.size hgl4)
  have hcv2 := conv_cells hc5 nn nn (by rw [List.length_cons, HZL.out]; have := HNN.out; omega)
  have HB5 := Lib.hid (HB4.out.trans (hb45.mono HB4.out.size))
  have cE2 : Calls Tryd.prog 10 #[.slice (some ⟨w5.heap.size, 0, none⟩) 2 2] (w5.alloc (.cells #[.string ⟨#[]⟩, .string ⟨(c :: Z).toArray⟩] 9)) (Encodes [[], c :: Z] (w5.alloc (.cells #[.string ⟨#[]⟩, .string ⟨(c :: Z).toArray⟩] 9))) := by
    have hl : (encL [[], c :: Z]).length ≤ 140737488355328 := by
      have h1 := headL_length 0
      have h2 := headL_length (c :: Z).length
      have h3 : (decDigits 0).length = 1 := by rw [dec_zero]; rfl
      have h4 : (decDigits (c :: Z).length).length = 5 := by
        rw [List.length_cons, HZL.out]
        decide +kernel
      simp only [encL, List.length_append, List.length_nil]
      rw [h1, h2, h3, h4, List.length_cons, HZL.out]
      omega
    refine encode_any (some ⟨w5.heap.size, 0, none⟩) 2 [[], c :: Z] _ (.inr ⟨_, 0, rfl, fun j hj => ?_⟩) hl (by simp) (HE.out.later (HB5.out.alloc HB5.out.size _))
    have hj2 : j < 2 := hj
    have : j = 0 ∨ j = 1 := by omega
    rcases this with rfl | rfl
    · unfold World.cell?; simp only [heap_alloc_new]; rfl
    · unfold World.cell?; simp only [heap_alloc_new]; rfl
  have hok2 : okL [[], c :: Z] = false := by
    have h1 : ¬ ((c :: Z).length ≤ 65536) := by rw [List.length_cons, HZL.out]; omega
    simp only [okL, decide_eq_false h1, Bool.false_and, Bool.and_false]
  unfold Encodes at cE2
  rw [hok2] at cE2
  simp only [Bool.false_eq_true, if_false] at cE2
  clear hb5 hb45 hc5 hok2 hcv1 cE1
  go_wp2_with fail
  refine cE2.mono ?_
  rintro e w6 ⟨rfl, hb6⟩
  have HB6 := Lib.hid (HB5.out.trans ((((Below.refl _ _).alloc (Nat.le_refl _) _).trans (hb6.mono (by simp))).mono HB5.out.size))
  clear hb6 hcv2 cE2
  go_wp2_with fail
  refine (alive_any w6 (HE.out.later HB6.out)).mono ?_
  rintro e w7 ⟨rfl, hb7⟩
  have HB7 := Lib.hid (HB6.out.trans (hb7.mono HB6.out.size))
  clear hb7
  go_wp2_with fail
  go_ret
  exact ⟨rfl, HB7.out⟩
theorem encs_walk (a : Option Addr) (cap : Nat) (l : List (List UInt8)) (c : UInt8) (w : World) (hl : TextsAt w a l) (hn : l.length ≤ 17592186044416) (hs : ∀ x ∈ l, x.length ≤ 1125899906842624) (hE : EnvF w) :
    Calls Tryd.prog 3 #[.slice a l.length cap, .int .u8 (c.toNat : Int)] w fun e w' => e = .returned (.bool true) ∧ Below w.heap.size w w' := by
  cases h : fitsB l with
  | true => exact encs_long a cap l c w hl hn hs hE h
  | false => exact encs_short a cap l _ w hl hn hs hE h
end Go.Proofs.YtojdginbaaoidaaDoor.F
