/- DocsLong's walk. -/
import Derived.Test.YtccmicmlkgkheaaDoorDAs
import Derived.Deep.RegionHeld3
namespace Go.Proofs.YtccmicmlkgkheaaDoor.D
open Go.RowKit
open Go.Lib hiding intOf
open Go.Proofs.YtccmicmlkgkheaaDoor.U Go.Proofs.YtccmicmlkgkheaaDoor.L Go.Proofs.YtccmicmlkgkheaaDoor.E

set_option maxRecDepth 20000 in
theorem slice_1 {g n m : Nat} (h : n = m + 1) (hm : 1 ≤ m) : ∀ W, (Instr.slice 48 (.slice (some ⟨g, 0, none⟩) n n) (some (.int .i64 1)) none none).run Tryd.prog W = .ok (.slice (some ⟨g, 1, none⟩) m m) W := by
  subst h; exact slice_one g m hm
set_option maxHeartbeats 8000000 in
set_option maxRecDepth 100000 in
theorem dlong_walk (x : Int) (name : ByteArray) (w : World) (hT : Tabs w) :
    Calls Tryd.prog 6 #[.int .i64 x, .string name] w (True' w) := by
  obtain ⟨i0, hi0, hz0, hz1, hz2⟩ := info_parts infoB
  have HT := Lib.hid hT
  clear hT
  go_enter Tryd.func6, Tryd.ntmps6
  generalize hbig : (16385 : Int) = big
  obtain ⟨nn, hnn⟩ : ∃ nn : Nat, big = nn := ⟨16385, by omega⟩
  subst hnn
  have HNN := Lib.hid (show nn = 16385 by omega)
  have hn3 : nn ≤ 1000000 := by omega
  have hn4 : 1000 ≤ nn := by omega
  clear hbig
  go_wp2_with (at_make; refine wpList_make_full _ rfl _ _ 48 rfl w.heap.size 5 i0 (.int .u8 0) 1 Tryd.underlying48 hi0 hz0 hz1 .i64 .i64 _ _ nn rfl rfl rfl rfl (by rw [hz2]; omega) (by unfold maxLen; omega) (Nat.le_refl _) ?_)
  intro w3 hown3 hg3
  have hrow : w3.ownsRow w.heap.size 5 1 (.slice (some ⟨w.heap.size, 0, none⟩) nn nn) nn (cellsTo nn 0) := by
    have e : (madeCells #[Value.int .u8 0] nn).toList = cellsTo nn 0 := by rw [toList_madeCells_one]; rfl
    rw [← e]; exact hown3
  have HR0 := Lib.hid hrow
  have HB0 : Hid (Below w.heap.size w w3) := Lib.hid ⟨hg3.os, hg3.tape, hg3.output, hg3.size, fun k hk => hg3.block k hk (by simp)⟩
  clear hown3 hg3 hrow
  go_wp2_with fail
  obtain ⟨g, hg⟩ : ∃ g, w.heap.size = g := ⟨_, rfl⟩
  have HGZ : Hid (w.heap.size ≤ g) := Lib.hid (Nat.le_of_eq hg)
  rw [hg] at HR0 ⊢
  clear hg
  go_loopw [6] (fun iv wr => ∃ i : Nat, iv = .int .i64 i ∧ i ≤ nn ∧ Hid (wr.ownsRow g 5 1 (.slice (some ⟨g, 0, none⟩) nn nn) nn (cellsTo nn i)) ∧ Hid (Below w.heap.size w wr)) (fun iv _ => nn - (intOf iv).toNat)
  case atStart => exact ⟨0, rfl, Nat.zero_le _, HR0, HB0⟩
  case round =>
    obtain ⟨i, rfl, hi, HR, HL⟩ := hrel
    clear HR0 HB0
    by_cases hlt : i < nn
    · have hst := HR.out.stored i (.int .u8 97)
      rw [cellsTo_set hlt] at hst
      have HS := Lib.hid hst.1
      have hlen : (cellsTo nn i).length = nn := by unfold cellsTo; simp; omega
      obtain ⟨old, hc⟩ : ∃ old, wr.cell? ⟨g, i, none⟩ = some old := ⟨(cellsTo nn i)[i]'(by omega), by rw [HR.out.cellAt i (by omega), List.getElem?_eq_getElem (by omega)]⟩
      have hf := HR.out.frozenAt i
      clear hst hlen
      go_wp2_with fail
      go_roundw
      case rel => exact ⟨i + 1, by go_num, by omega, HS, Lib.hid (HL.out.setCell (p := ⟨g, i, none⟩) HGZ.out _)⟩
      case measure => simp [intOf]; omega
    · obtain rfl : i = nn := by omega
      obtain ⟨w0, rfl⟩ : ∃ W, W = wr := ⟨_, rfl⟩
      obtain ⟨mm, hmm⟩ : ∃ mm, i = mm + 1 := ⟨i - 1, by omega⟩
      have hm1 : mm = 16384 := by have := HNN.out; omega
      have hcell : ∀ j, j < i → w0.cell? ⟨g, j, none⟩ = some (.int .u8 97) := fun j hj => by rw [HR.out.cellAt j (by omega)]; exact cellsTo_at hj
      have hgw : g < w0.heap.size := (HR.out.lt g rfl).2
      have hcT : ∀ X, Below w0.heap.size w0 X → (convert 48 9 (.slice (some ⟨g, 0, none⟩) i i)).run Tryd.prog X = .ok (.string (aN i)) X := fun X hb => conv_a (g := g) (o := 0) (n := i) (w := X) (fun j hj => by rw [Nat.zero_add]; exact (hb.cell (p := ⟨g, j, none⟩) hgw).trans (hcell j hj))
      have hcU : ∀ X, Below w0.heap.size w0 X → (convert 48 9 (.slice (some ⟨g, 1, none⟩) mm mm)).run Tryd.prog X = .ok (.string (aN mm)) X := fun X hb => conv_a (g := g) (o := 1) (n := mm) (w := X) (fun j hj => (hb.cell (p := ⟨g, 1 + j, none⟩) hgw).trans (hcell (1 + j) (by omega)))
      have hsl := slice_1 (g := g) hmm (by omega)
      have hAT := aN_as i
      have hAU := aN_as mm
      generalize aN i = T at hcT hAT
      generalize aN mm = U at hcU hAU
      rw [HNN.out] at hAT
      rw [hm1] at hAU
      have hTz : T.size ≤ 1000000 := by rw [hAT.size]; omega
      have hUz : U.size ≤ 1000000 := by rw [hAU.size]; omega
      have HCT := Lib.hid hcT
      have HCU := Lib.hid hcU
      have HAT := Lib.hid hAT
      have HAU := Lib.hid hAU
      have HTW := Lib.hid (tabs_later HT.out HL.out)
      have cN := snew_any w0
      clear hcT hcU hAT hAU hcell hm1 hmm
      go_wp2_with fail
      refine cN.mono ?_
      rintro e w1 ⟨rfl, hP, hb1⟩
      obtain ⟨p, hp⟩ : ∃ p, w0.heap.size = p := ⟨_, rfl⟩
      have hO1 : One p w0 [] w1 := by
        refine ⟨none, by rw [← hp]; exact hP, fun k hk => ?_, hb1⟩
        rcases hk with e | e
        · omega
        · cases e
      rw [hp]
      clear hP cN
      have hcv := HCT.out w1 hb1
      have c1 := one_prog hO1 (fun y h => popen_any p y [] ⟨⟨#[120]⟩, 0, T⟩ w1 h inv_nil (show (⟨#[120]⟩ : ByteArray).size ≤ 1000000 by decide) hTz (hO1.tabs HTW.out))
      rw [long_1 HAT.out] at c1
      try simp only at c1
      clear hO1 hb1 hp
      go_wp2_with fail
      refine c1.mono ?_
      rintro e w2 ⟨rfl, hO2, _, _⟩
      clear hcv c1
      have hcv := HCU.out w2 hO2.below
      have c2 := one_prog hO2 (fun y h => popen_any p y [] ⟨⟨#[120]⟩, 0, U⟩ w2 h inv_nil (show (⟨#[120]⟩ : ByteArray).size ≤ 1000000 by decide) hUz (hO2.tabs HTW.out))
      rw [(LongL.start HAU.out).1] at c2
      try simp only at c2
      clear hO2
      go_wp2_with fail
      refine c2.mono ?_
      rintro e w4 ⟨rfl, hO4, _, _⟩
      clear hcv c2 hsl
      have hcv := HCT.out w4 hO4.below
      have c3 := one_prog hO4 (fun y h => pwhole_any p y [⟨⟨#[120]⟩, 0, U⟩] ⟨#[120]⟩ 1 T w4 h (LongL.start HAU.out).2.inv (by decide) hTz (hO4.tabs HTW.out))
      rw [long_2 HAT.out] at c3
      try simp only at c3
      clear hO4
      go_wp2_with fail
      refine c3.mono ?_
      rintro e w5 ⟨rfl, hO5, _, _⟩
      have HO5 := Lib.hid hO5
      have HL5 := Lib.hid (LongL.start HAU.out).2
      clear hcv c3 hO5
      go_wp2_with fail
      go_loopw [11] (fun iv wr => ∃ (j : Nat) (l : List DocP), iv = .int .i64 j ∧ j ≤ 7 ∧ Hid (LongL j l) ∧ Hid (One p w0 l wr)) (fun iv _ => 7 - (intOf iv).toNat)
      case atStart => exact ⟨0, _, rfl, by omega, HL5, HO5⟩
      case round =>
        obtain ⟨j, l, rfl, hj, HLL, HO⟩ := hrel
        clear HO5 HL5
        by_cases hlt : j < 7
        · have d1 : decide ((j : Int) < 7) = true := by simp; omega
          have c4 := one_prog HO.out (fun y h => popen_any p y l ⟨nm j, x, ⟨#[]⟩⟩ wr h HLL.out.inv (nm_ok j hlt).2 (show (⟨#[]⟩ : ByteArray).size ≤ 1000000 by decide) (HO.out.tabs HTW.out))
          rw [(HLL.out.step hlt x).1] at c4
          try simp only at c4
          have HLL2 := Lib.hid (HLL.out.step hlt x).2
          generalize insL ⟨nm j, x, ⟨#[]⟩⟩ l = l2 at c4 HLL2
          unfold nm at c4
          go_wp2_with fail
          refine c4.mono ?_
          rintro e w6 ⟨rfl, hO6, _, _⟩
          have HO6 := Lib.hid hO6
          clear c4 hO6
          go_wp2_with fail
          go_roundw
          case rel => exact ⟨j + 1, _, by go_num, by omega, HLL2, HO6⟩
          case measure => simp [intOf]; omega
        · obtain rfl : j = 7 := by omega
          have c5 := one_prog HO.out (fun y h => popen_any p y l ⟨⟨#[121]⟩, 0, ⟨#[]⟩⟩ wr h HLL.out.inv (show (⟨#[121]⟩ : ByteArray).size ≤ 1000000 by decide) (show (⟨#[]⟩ : ByteArray).size ≤ 1000000 by decide) (HO.out.tabs HTW.out))
          rw [HLL.out.full] at c5
          try simp only at c5
          go_wp2_with fail
          refine c5.mono ?_
          rintro e w6 ⟨rfl, hO6, _, _⟩
          have HO6 := Lib.hid hO6
          have cG := nil_get name w6
          clear c5 hO6
          go_wp2_with fail
          refine cG.mono ?_
          rintro e w7 ⟨rfl, hb7⟩
          have HO7 := Lib.hid (HO6.out.later hb7)
          clear cG hb7
          obtain ⟨W8, hW8⟩ : ∃ W, w7.alloc (.cells #[.string ⟨#[]⟩, .int .i64 0, .string ⟨#[]⟩] 30) = W := ⟨_, rfl⟩
          have hO8 : One p w0 l W8 := by rw [← hW8]; exact HO7.out.later ((Below.refl _ _).alloc (Nat.le_refl _) _)
          have HO8 := Lib.hid hO8
          have cA := alive_any W8 (hO8.tabs HTW.out)
          have HW8 := Lib.hid hW8
          clear hO8 HO7 hW8
          go_wp2_with fail
          rw [HW8.out]
          refine cA.mono ?_
          rintro e w9 ⟨rfl, hb9⟩
          have HO9 := Lib.hid (HO8.out.later hb9)
          clear cA hb9 HW8 HO8
          obtain ⟨y, hy, _, _⟩ := HO9.out
          have cS := size_any p y l w9 hy HLL.out.inv
          rw [HLL.out.size] at cS
          clear hy
          go_wp2_with fail
          refine cS.mono ?_
          rintro e w10 ⟨rfl, hb10⟩
          have HO10 := Lib.hid (HO9.out.later hb10)
          clear cS hb10 HO9
          have cZ := nil_open name ⟨#[]⟩ 0 w10
          go_wp2_with fail
          refine cZ.mono ?_
          rintro e w11 ⟨rfl, hbb⟩
          have HO11 := Lib.hid (HO10.out.later hbb)
          clear cZ hbb HO10
          have cZ := nil_change name x (.slice none 0 0) w11
          go_wp2_with fail
          refine cZ.mono ?_
          rintro e w12 ⟨rfl, hbb⟩
          have HO12 := Lib.hid (HO11.out.later hbb)
          clear cZ hbb HO11
          have cZ := nil_whole name ⟨#[]⟩ x w12
          go_wp2_with fail
          refine cZ.mono ?_
          rintro e w13 ⟨rfl, hbb⟩
          have HO13 := Lib.hid (HO12.out.later hbb)
          clear cZ hbb HO12
          have cZ := nil_close name w13
          go_wp2_with fail
          refine cZ.mono ?_
          rintro e w14 ⟨rfl, hbb⟩
          have HO14 := Lib.hid (HO13.out.later hbb)
          clear cZ hbb HO13
          have cZ := nil_all  w14
          go_wp2_with fail
          refine cZ.mono ?_
          rintro e w15 ⟨rfl, hbb⟩
          have HO15 := Lib.hid (HO14.out.later hbb)
          clear cZ hbb HO14
          have cZ := nil_size  w15
          go_wp2_with fail
          refine cZ.mono ?_
          rintro e w16 ⟨rfl, hbb⟩
          have HO16 := Lib.hid (HO15.out.later hbb)
          clear cZ hbb HO15
          go_wp2_with fail
          go_ret
          exact ⟨by first | rfl | simp, HL.out.trans (HO16.out.below.mono HL.out.size)⟩
end Go.Proofs.YtccmicmlkgkheaaDoor.D
