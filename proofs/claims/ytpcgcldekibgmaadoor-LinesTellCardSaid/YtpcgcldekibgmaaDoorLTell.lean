/- The walk of the statement 'lines, and places' of layer 5. -/
import Derived.Test.YtpcgcldekibgmaaDoorLRefP
import Derived.Test.YtpcgcldekibgmaaDoorLBack
namespace Go.Proofs.YtpcgcldekibgmaaDoor.L
open Go.RowKit
open Go.Lib hiding intOf
open Go.Proofs.YtpcgcldekibgmaaDoor.U

set_option maxHeartbeats 2000000 in
set_option maxRecDepth 100000 in
theorem tell_far (s : ByteArray) (l u a : Int) (w : World) (hq : 400 < s.size ∨ (¬ 400 < s.size ∧ okB s = false)) (hT : Tabs w) :
    Calls Tryd.prog 3 #[.string s, .agg #[.int .i64 l, .int .i64 u], .int .i64 a] w (True' w) := by
  obtain ⟨W, hW⟩ : ∃ W, w.alloc (.cells #[.int .i64 l, .int .i64 u] 23) = W := ⟨_, rfl⟩
  have hbw : Below w.heap.size w W := by rw [← hW]; exact (Below.refl _ _).alloc (Nat.le_refl _) _
  have HBW := Lib.hid hbw
  have HT := Lib.hid (tabs_later hT hbw)
  clear hbw hT
  rcases hq with h | ⟨h, hok⟩
  · have hz : (400 : Int) < (s.size : Int) := by omega
    have cA := alive_any W HT.out
    go_enter Tryd.func3, Tryd.ntmps3
    go_wp2_with fail
    refine cA.mono ?_
    rintro e w1 ⟨rfl, hb1⟩
    go_wp2_with fail
    go_ret
    exact ⟨rfl, next HBW.out hb1⟩
  · have hz : ¬ (400 : Int) < (s.size : Int) := by omega
    have cR := ref_right s W (by omega)
    rw [hok] at cR
    have HOK := Lib.hid hok
    clear hok
    go_enter Tryd.func3, Tryd.ntmps3
    go_wp2_with fail
    refine cR.mono ?_
    rintro e w1 ⟨rfl, hb1⟩
    have HB1 := Lib.hid hb1
    have cN := new_no s w1 (by omega) (tabs_later HT.out hb1) HOK.out
    clear hb1 cR hW
    go_wp2_with fail
    refine cN.mono ?_
    rintro e w2 ⟨rfl, hb2⟩
    have HB2 := Lib.hid (next HB1.out hb2)
    have cA := alive_any w2 (tabs_later HT.out HB2.out)
    clear hb2 cN
    go_wp2_with fail
    refine cA.mono ?_
    rintro e w3 ⟨rfl, hb3⟩
    go_wp2_with fail
    go_ret
    exact ⟨rfl, next HBW.out (next HB2.out hb3)⟩
theorem lines_is' (b : Nat) (s : ByteArray) (v : Value) (n : Int) (w : World) (h : Idx b s v w) (hs : s.size ≤ 1099511627776) (hn : (((ends s).length + 1 : Nat) : Int) = n) :
    Calls Tryd.prog 11 #[.pointer (some ⟨b, 0, none⟩)] w fun e w' => e = .returned (.int .i64 n) ∧ w = w' := by
  rw [← hn]; exact lines_any b s v w h hs
theorem line_is (b : Nat) (s : ByteArray) (v : Value) (n : Int) (t : ByteArray) (c : Int) (w : World) (h : Idx b s v w) (hs : s.size ≤ 1099511627776) (hp : lineL s n = (t, c)) :
    Calls Tryd.prog 12 #[.pointer (some ⟨b, 0, none⟩), .int .i64 n] w fun e w' => e = .returned (.tuple #[.string t, .int .i64 c]) ∧ Below w.heap.size w w' := by
  have := line_any b s v n w h hs
  rw [hp] at this
  exact this
theorem refOff_is (s : ByteArray) (l u a c : Int) (w : World) (hs : s.size ≤ 400) (ho : offL s l u = (a, c)) :
    Calls Tryd.prog 14 #[.string s, .agg #[.int .i64 l, .int .i64 u]] w fun e w' => e = .returned (.tuple #[.int .i64 a, .int .i64 c]) ∧ Below w.heap.size w w' := by
  have := refOff_any s l u w hs
  rw [ho] at this
  exact this
theorem refPlace_is (s : ByteArray) (at' n u c : Int) (w : World) (hs : s.size ≤ 400) (ha : -9223372036854775808 ≤ at' ∧ at' < 9223372036854775808) (hp : placeL s at' = (n, u, c)) :
    Calls Tryd.prog 16 #[.string s, .int .i64 at'] w fun e w' => e = .returned (.tuple #[.agg #[.int .i64 n, .int .i64 u], .int .i64 c]) ∧ Below w.heap.size w w' := by
  have := refPlace_any s at' w hs ha
  rw [hp] at this
  exact this

set_option maxHeartbeats 8000000 in
set_option maxRecDepth 100000 in
theorem tell_near (s : ByteArray) (l u a : Int) (w : World) (hs : s.size ≤ 400) (hok : okB s = true) (ha : -9223372036854775808 ≤ a ∧ a < 9223372036854775808) (hT : Tabs w) :
    Calls Tryd.prog 3 #[.string s, .agg #[.int .i64 l, .int .i64 u], .int .i64 a] w (True' w) := by
  obtain ⟨W, hW⟩ : ∃ W, w.alloc (.cells #[.int .i64 l, .int .i64 u] 23) = W := ⟨_, rfl⟩
  have hbw : Below w.heap.size w W := by rw [← hW]; exact (Below.refl _ _).alloc (Nat.le_refl _) _
  have HBX := Lib.hid (show W.heap[w.heap.size]? = some (.cells #[.int .i64 l, .int .i64 u] 23 (0, 0)) by rw [← hW]; exact heap_alloc_new _ _)
  have HBW := Lib.hid hbw
  have HT := Lib.hid (tabs_later hT hbw)
  have hz : ¬ (400 : Int) < (s.size : Int) := by omega
  have cR := ref_right s W hs
  rw [hok] at cR
  have HOK := Lib.hid hok
  obtain ⟨oa, oc, ho⟩ : ∃ oa oc, offL s l u = (oa, oc) := ⟨_, _, rfl⟩
  obtain ⟨pn, pu, pc, hp⟩ : ∃ pn pu pc, placeL s a = (pn, pu, pc) := ⟨_, _, _, rfl⟩
  have HO := Lib.hid ho
  have HP := Lib.hid hp
  have hl := ends_le s
  clear hbw hT hok ho hp
  go_enter Tryd.func3, Tryd.ntmps3
  go_wp2_with fail
  refine cR.mono ?_
  rintro e w1 ⟨rfl, hb1⟩
  have HB1 := Lib.hid hb1
  have cN := new_ok s w1 (by omega) (tabs_later HT.out hb1) HOK.out
  clear hb1 cR hW
  go_wp2_with fail
  refine cN.mono ?_
  rintro e w2 ⟨b, v, rfl, hi, hb2⟩
  have HB2 := Lib.hid (next HB1.out hb2)
  have HI2 := Lib.hid hi
  have cS := split_any s w2 hs
  clear hb2 cN hi
  go_wp2_with fail
  refine cS.mono ?_
  rintro e w3 ⟨g, cap, rfl, hb3, hg3, hc3⟩
  have HB3 := Lib.hid (next HB2.out hb3)
  have HI3 := Lib.hid (HI2.out.later hb3)
  have HC3 := Lib.hid hc3
  have hlen2 : lineL s (((ends s).length : Int) + 1) = (⟨#[]⟩, 51) := by unfold lineL; rw [if_neg (by omega)]
  obtain ⟨L, hL⟩ : ∃ L, (ends s).length = L := ⟨_, rfl⟩
  have cL := lines_is' b s v ((L : Int) + 1) w3 HI3.out (by omega) (by rw [hL]; rfl)
  have HL := Lib.hid hL
  rw [hL] at hl hlen2 ⊢
  have HLEN2 := Lib.hid hlen2
  clear hb3 hc3 cS hL HI2 HB2 HB1 hlen2
  go_wp2_with fail
  refine cL.mono ?_
  rintro e w4 ⟨rfl, rfl⟩
  clear cL
  go_upto_region 11 with fail
  go_loopw [11] (fun iv wr => ∃ i : Nat, iv = .int .i64 i ∧ i ≤ L + 1 ∧ Hid (Below w3.heap.size w3 wr)) (fun iv _ => L + 1 - (intOf iv).toNat)
  case atStart => exact ⟨0, rfl, by omega, Lib.hid (Below.refl _ _)⟩
  case round =>
    obtain ⟨i, rfl, hi, HBr⟩ := hrel
    by_cases hlt : i < L + 1
    · have hln : lineL s i = (ln s i, 0) := by
        unfold lineL; rw [if_pos (by have := HL.out; omega)]; simp
      have cI := line_is b s v i (ln s i) 0 wr (HI3.out.later HBr.out) (by omega) hln
      have HCI := Lib.hid (HC3.out i (by have := HL.out; omega))
      generalize ln s i = t at cI HCI
      clear hln
      go_wp2_with fail
      refine cI.mono ?_
      rintro e w5 ⟨rfl, hb5⟩
      have HB5 := Lib.hid (next HBr.out hb5)
      have hci : w5.cell? ⟨g, i, none⟩ = some (.string t) := (HB5.out.cell (p := ⟨g, i, none⟩) hg3).trans HCI.out
      clear hb5 cI
      go_wp2_with fail
      go_roundw
      case rel => exact ⟨i + 1, by go_num, by omega, HB5⟩
      case measure => simp [intOf]; omega
    · obtain rfl : i = L + 1 := by omega
      have cI := line_is b s v ((L : Int) + 1) ⟨#[]⟩ 51 wr (HI3.out.later HBr.out) (by omega) HLEN2.out
      go_wp2_with fail
      refine cI.mono ?_
      rintro e w5 ⟨rfl, hb5⟩
      have HB5 := Lib.hid (next HBr.out hb5)
      have HB35 := Lib.hid (next HB3.out HB5.out)
      obtain ⟨p0, p1⟩ := bx_cells HBX.out HB35.out
      have cO := offset_is b s v l u oa oc w5 (HI3.out.later HB5.out) (by omega) (tabs_later HT.out HB35.out) HO.out
      clear hb5 cI
      go_wp2_with fail
      refine cO.mono ?_
      rintro e w6 ⟨rfl, hb6⟩
      have HB6 := Lib.hid (next HB5.out hb6)
      have HB36 := Lib.hid (next HB3.out HB6.out)
      obtain ⟨p0, p1⟩ := bx_cells HBX.out HB36.out
      have cO := refOff_is s l u oa oc w6 hs HO.out
      clear hb6 HB5 HB35
      go_wp2_with fail
      refine cO.mono ?_
      rintro e w7 ⟨rfl, hb7⟩
      have HB7 := Lib.hid (next HB6.out hb7)
      have HB37 := Lib.hid (next HB3.out HB7.out)
      have cP := place_is b s v a pn pu pc w7 (HI3.out.later HB7.out) (by omega) ha (tabs_later HT.out HB37.out) HP.out
      clear hb7 HB6 HB36 p0 p1 cO
      go_wp2_with fail
      refine cP.mono ?_
      rintro e w8 ⟨rfl, hb8⟩
      have HB8 := Lib.hid (next HB37.out hb8)
      clear hb8 cP HB37 HB7
      go_upto_region 20 with fail
      obtain ⟨q9, hq9⟩ : ∃ q, w8.heap.size = q := ⟨_, rfl⟩
      obtain ⟨W9, hW9⟩ : ∃ W9, w8.alloc (.cells #[.int .i64 pn, .int .i64 pu] 23) = W9 := ⟨_, rfl⟩
      have HX9 := Lib.hid (show W9.heap[q9]? = some (.cells #[.int .i64 pn, .int .i64 pu] 23 (0, 0)) by rw [← hW9, ← hq9]; exact heap_alloc_new _ _)
      have HB9 := Lib.hid (next HB8.out (show Below w8.heap.size w8 W9 by rw [← hW9]; exact (Below.refl _ _).alloc (Nat.le_refl _) _))
      rw [hW9, hq9]
      have cP := refPlace_is s a pn pu pc W9 hs ha HP.out
      clear hW9 hq9
      go_wp2_with fail
      refine cP.mono ?_
      rintro e w10 ⟨rfl, hb10⟩
      have HB10 := Lib.hid hb10
      clear hb10 cP
      go_upto_region 21 with fail
      obtain ⟨q11, hq11⟩ : ∃ q, w10.heap.size = q := ⟨_, rfl⟩
      obtain ⟨W11, hW11⟩ : ∃ W11, w10.alloc (.cells #[.int .i64 pn, .int .i64 pu] 23) = W11 := ⟨_, rfl⟩
      have HX11 := Lib.hid (show W11.heap[q11]? = some (.cells #[.int .i64 pn, .int .i64 pu] 23 (0, 0)) by rw [← hW11, ← hq11]; exact heap_alloc_new _ _)
      have HB11 := Lib.hid (next HB10.out (show Below w10.heap.size w10 W11 by rw [← hW11]; exact (Below.refl _ _).alloc (Nat.le_refl _) _))
      have HX911 := Lib.hid (bx_block HX9.out HB11.out)
      rw [hW11, hq11]
      have HB911 := Lib.hid (next HB9.out HB11.out)
      have cA := alive_any W11 (tabs_later HT.out HB911.out)
      clear hW11 hq11 HB10
      go_wp2_with fail
      refine cA.mono ?_
      rintro e w12 ⟨rfl, hb12⟩
      have HB12 := Lib.hid (next HB911.out hb12)
      obtain ⟨r0, r1⟩ := bx_cells HX11.out hb12
      obtain ⟨t0, t1⟩ := bx_cells HX911.out hb12
      have heq := fun W => eql_place pn pu pn pu W
      clear hb12 cA
      go_wp2_with fail
      go_ret
      exact ⟨by first | rfl | simp, next HBW.out HB12.out⟩
theorem tell_walk (s : ByteArray) (l u a : Int) (w : World) (ha : -9223372036854775808 ≤ a ∧ a < 9223372036854775808) (hT : Tabs w) :
    Calls Tryd.prog 3 #[.string s, .agg #[.int .i64 l, .int .i64 u], .int .i64 a] w (True' w) := by
  by_cases h : 400 < s.size
  · exact tell_far s l u a w (.inl h) hT
  · cases hok : okB s
    · exact tell_far s l u a w (.inr ⟨h, hok⟩) hT
    · exact tell_near s l u a w (by omega) hok ha hT
end Go.Proofs.YtpcgcldekibgmaaDoor.L
