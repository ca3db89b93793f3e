/- The walk of the statement 'there and back' of layer 5. -/
import Derived.Test.YtpcgcldekibgmaaDoorLNil
namespace Go.Proofs.YtpcgcldekibgmaaDoor.L
open Go.RowKit
open Go.Lib hiding intOf
open Go.Proofs.YtpcgcldekibgmaaDoor.U

theorem ret_bool {a b : Bool} (h : a = b) : Ending.returned (.bool a) = .returned (.bool b) := by rw [h]

set_option maxHeartbeats 2000000 in
set_option maxRecDepth 100000 in
theorem back_far (s : ByteArray) (a b : Int) (w : World) (hs : s.size ≤ 1099511627776) (hq : okB s = false ∨ 400 < s.size) (hT : Tabs w) :
    Calls Tryd.prog 4 #[.string s, .agg #[.int .i64 a, .int .i64 b]] w (True' w) := by
  obtain ⟨W, hW⟩ : ∃ W, w.alloc (.cells #[.int .i64 a, .int .i64 b] 42) = W := ⟨_, rfl⟩
  have hbw : Below w.heap.size w W := by rw [← hW]; exact (Below.refl _ _).alloc (Nat.le_refl _) _
  have HBW := Lib.hid hbw
  have HT := Lib.hid (tabs_later hT hbw)
  clear hbw hT
  cases hok : okB s
  · have cN := new_no s W hs HT.out hok
    clear hok hq
    by_cases h400 : (400 : Int) < (s.size : Int)
    all_goals
      go_enter Tryd.func4, Tryd.ntmps4
      go_wp2_with fail
      refine cN.mono ?_
      rintro e w1 ⟨rfl, hb1⟩
      have HB1 := Lib.hid hb1
      clear hb1 cN hW
      have cA := alive_any w1 (tabs_later HT.out HB1.out)
      go_wp2_with fail
      refine cA.mono ?_
      rintro e w2 ⟨rfl, hb2⟩
      have HB2 := Lib.hid (next HB1.out hb2)
      clear hb2 cA
      go_wp2_with fail
      go_ret
      exact ⟨rfl, next HBW.out HB2.out⟩
  · have cN := new_ok s W hs HT.out hok
    have h400 : (400 : Int) < (s.size : Int) := by
      rcases hq with h | h
      · rw [hok] at h; cases h
      · omega
    clear hok hq
    go_enter Tryd.func4, Tryd.ntmps4
    go_wp2_with fail
    refine cN.mono ?_
    rintro e w1 ⟨bb, vv, rfl, hi, hb1⟩
    have HB1 := Lib.hid hb1
    clear hb1 cN hW hi
    have cA := alive_any w1 (tabs_later HT.out HB1.out)
    go_wp2_with fail
    refine cA.mono ?_
    rintro e w2 ⟨rfl, hb2⟩
    have HB2 := Lib.hid (next HB1.out hb2)
    clear hb2 cA
    go_wp2_with fail
    go_ret
    exact ⟨rfl, next HBW.out HB2.out⟩

/-- Place, where its answer is known. -/
theorem place_is (b : Nat) (s : ByteArray) (v : Value) (at' n u c : Int) (w : World) (h : Idx b s v w) (hs : s.size ≤ 1099511627776) (ha : -9223372036854775808 ≤ at' ∧ at' < 9223372036854775808) (hT : Tabs w) (hp : placeL s at' = (n, u, c)) :
    Calls Tryd.prog 15 #[.pointer (some ⟨b, 0, none⟩), .int .i64 at'] w fun e w' => e = .returned (.tuple #[.agg #[.int .i64 n, .int .i64 u], .int .i64 c]) ∧ Below w.heap.size w w' := by
  have := place_any b s v at' w h hs ha hT
  rw [hp] at this
  exact this
theorem offset_is (b : Nat) (s : ByteArray) (v : Value) (l u a c : Int) (w : World) (h : Idx b s v w) (hs : s.size ≤ 1099511627776) (hT : Tabs w) (ho : offL s l u = (a, c)) :
    Calls Tryd.prog 13 #[.pointer (some ⟨b, 0, none⟩), .agg #[.int .i64 l, .int .i64 u]] w fun e w' => e = .returned (.tuple #[.int .i64 a, .int .i64 c]) ∧ Below w.heap.size w w' := by
  have := idxOff_any b s v l u w h hs hT
  rw [ho] at this
  exact this

set_option maxHeartbeats 4000000 in
set_option maxRecDepth 100000 in
theorem back_wrong (s : ByteArray) (a b n u c m v' d : Int) (w : World) (hs : s.size ≤ 400) (hok : okB s = true) (ha : -9223372036854775808 ≤ a ∧ a < 9223372036854775808) (hb : -9223372036854775808 ≤ b ∧ b < 9223372036854775808)
    (h1 : placeL s a = (n, u, c)) (h2 : placeL s b = (m, v', d)) (hcd : (c = 51 ∧ d = 51) ∨ (c = 51 ∧ d = 0) ∨ (c = 0 ∧ d = 51)) (hT : Tabs w) :
    Calls Tryd.prog 4 #[.string s, .agg #[.int .i64 a, .int .i64 b]] w (True' w) := by
  obtain ⟨W, hW⟩ : ∃ W, w.alloc (.cells #[.int .i64 a, .int .i64 b] 42) = W := ⟨_, rfl⟩
  have hbw : Below w.heap.size w W := by rw [← hW]; exact (Below.refl _ _).alloc (Nat.le_refl _) _
  have HBX := Lib.hid (show W.heap[w.heap.size]? = some (.cells #[.int .i64 a, .int .i64 b] 42 (0, 0)) by rw [← hW]; exact heap_alloc_new _ _)
  have HBW := Lib.hid hbw
  have HT := Lib.hid (tabs_later hT hbw)
  have cN := new_ok s W (by omega) HT.out hok
  have h400 : ¬ (400 : Int) < (s.size : Int) := by omega
  have H1 := Lib.hid h1
  have H2 := Lib.hid h2
  clear hbw hT hok h1 h2
  go_enter Tryd.func4, Tryd.ntmps4
  go_upto_region 2 with (go_at_call 9; (with_reducible refine cN.mono ?_); rintro e w1 ⟨bb, vv, rfl, hi, hb1⟩)
  have HB1 := Lib.hid hb1
  have HI := Lib.hid hi
  obtain ⟨p0, p1⟩ := bx_cells HBX.out hb1
  have cP := place_is bb s vv a n u c w1 hi (by omega) ha (tabs_later HT.out hb1) H1.out
  clear hb1 cN hW hi
  go_wp2_with fail
  refine cP.mono ?_
  rintro e w2 ⟨rfl, hb2⟩
  have HB2 := Lib.hid hb2
  clear hb2 cP p0 p1
  go_upto_region 5 with fail
  obtain ⟨W3, hW3⟩ : ∃ W3, w2.alloc (.cells #[.int .i64 n, .int .i64 u] 23) = W3 := ⟨_, rfl⟩
  have hb3 := next HB2.out (show Below w2.heap.size w2 W3 by rw [← hW3]; exact (Below.refl _ _).alloc (Nat.le_refl _) _)
  have HB3 := Lib.hid hb3
  rw [hW3]
  obtain ⟨p0, p1⟩ := bx_cells HBX.out (next HB1.out hb3)
  have cP := place_is bb s vv b m v' d W3 (HI.out.later hb3) (by omega) hb (tabs_later HT.out (next HB1.out hb3)) H2.out
  clear hb3 hW3
  go_wp2_with fail
  refine cP.mono ?_
  rintro e w4 ⟨rfl, hb4⟩
  have HB4 := Lib.hid (next HB3.out hb4)
  clear hb4 cP p0 p1
  go_upto_region 6 with fail
  obtain ⟨W5, hW5⟩ : ∃ W5, w4.alloc (.cells #[.int .i64 m, .int .i64 v'] 23) = W5 := ⟨_, rfl⟩
  have hb5 := next HB4.out (show Below w4.heap.size w4 W5 by rw [← hW5]; exact (Below.refl _ _).alloc (Nat.le_refl _) _)
  have HB5 := Lib.hid (next HB1.out hb5)
  rw [hW5]
  have cA := alive_any W5 (tabs_later HT.out HB5.out)
  clear hb5 hW5
  rcases hcd with ⟨rfl, rfl⟩ | ⟨rfl, rfl⟩ | ⟨rfl, rfl⟩
  all_goals
    go_wp2_with fail
    refine cA.mono ?_
    rintro e w6 ⟨rfl, hb6⟩
    have HB6 := Lib.hid (next HB5.out hb6)
    clear hb6 cA
    go_wp2_with fail
    go_ret
    exact ⟨rfl, next HBW.out HB6.out⟩

set_option maxHeartbeats 4000000 in
set_option maxRecDepth 100000 in
theorem back_right (s : ByteArray) (a b : Int) (n u m v' : Nat) (w : World) (hs : s.size ≤ 400) (hok : okB s = true) (ha : -9223372036854775808 ≤ a ∧ a < 9223372036854775808) (hb : -9223372036854775808 ≤ b ∧ b < 9223372036854775808)
    (h1 : placeL s a = ((n : Int), (u : Int), 0)) (h2 : placeL s b = ((m : Int), (v' : Int), 0)) (hT : Tabs w) :
    Calls Tryd.prog 4 #[.string s, .agg #[.int .i64 a, .int .i64 b]] w (True' w) := by
  obtain ⟨W, hW⟩ : ∃ W, w.alloc (.cells #[.int .i64 a, .int .i64 b] 42) = W := ⟨_, rfl⟩
  have hbw : Below w.heap.size w W := by rw [← hW]; exact (Below.refl _ _).alloc (Nat.le_refl _) _
  have HBX := Lib.hid (show W.heap[w.heap.size]? = some (.cells #[.int .i64 a, .int .i64 b] 42 (0, 0)) by rw [← hW]; exact heap_alloc_new _ _)
  have HBW := Lib.hid hbw
  have HT := Lib.hid (tabs_later hT hbw)
  have cN := new_ok s W (by omega) HT.out hok
  have h400 : ¬ (400 : Int) < (s.size : Int) := by omega
  have hless := place_less s a b n u m v' h1 h2
  have O1 := Lib.hid (place_back s a n u h1)
  have O2 := Lib.hid (place_back s b m v' h2)
  have H1 := Lib.hid h1
  have H2 := Lib.hid h2
  have hcase : (n < m ∧ a < b) ∨ (n = m ∧ u < v' ∧ a < b) ∨ (n = m ∧ ¬ u < v' ∧ ¬ a < b) ∨ (¬ n < m ∧ (n : Int) ≠ (m : Int) ∧ ¬ a < b) := by
    by_cases hlt : a < b
    · rcases hless.2 hlt with h | ⟨h, h'⟩
      · exact .inl ⟨by omega, hlt⟩
      · exact .inr (.inl ⟨by omega, by omega, hlt⟩)
    · have h3 := mt hless.1 hlt
      by_cases hnm : n = m
      · exact .inr (.inr (.inl ⟨hnm, fun h => h3 (.inr ⟨by omega, by omega⟩), hlt⟩))
      · exact .inr (.inr (.inr ⟨fun h => h3 (.inl (by omega)), by omega, hlt⟩))
  clear hbw hT hok h1 h2 hless
  go_enter Tryd.func4, Tryd.ntmps4
  go_upto_region 2 with (go_at_call 9; (with_reducible refine cN.mono ?_); rintro e w1 ⟨bb, vv, rfl, hi, hb1⟩)
  have HB1 := Lib.hid hb1
  have HI := Lib.hid hi
  obtain ⟨p0, p1⟩ := bx_cells HBX.out hb1
  have cP := place_is bb s vv a n u 0 w1 hi (by omega) ha (tabs_later HT.out hb1) H1.out
  clear hb1 cN hW hi
  go_wp2_with fail
  refine cP.mono ?_
  rintro e w2 ⟨rfl, hb2⟩
  have HB2 := Lib.hid hb2
  clear hb2 cP p0 p1
  go_upto_region 5 with fail
  obtain ⟨q3, hq3⟩ : ∃ q, w2.heap.size = q := ⟨_, rfl⟩
  obtain ⟨W3, hW3⟩ : ∃ W3, w2.alloc (.cells #[.int .i64 n, .int .i64 u] 23) = W3 := ⟨_, rfl⟩
  have hb3 := next HB2.out (show Below w2.heap.size w2 W3 by rw [← hW3]; exact (Below.refl _ _).alloc (Nat.le_refl _) _)
  have HX3 := Lib.hid (show W3.heap[q3]? = some (.cells #[.int .i64 n, .int .i64 u] 23 (0, 0)) by rw [← hW3, ← hq3]; exact heap_alloc_new _ _)
  have HB3 := Lib.hid hb3
  rw [hW3, hq3]
  obtain ⟨p0, p1⟩ := bx_cells HBX.out (next HB1.out hb3)
  have cP := place_is bb s vv b m v' 0 W3 (HI.out.later hb3) (by omega) hb (tabs_later HT.out (next HB1.out hb3)) H2.out
  clear hb3 hW3 hq3
  go_wp2_with fail
  refine cP.mono ?_
  rintro e w4 ⟨rfl, hb4⟩
  have HB4 := Lib.hid hb4
  clear hb4 cP p0 p1
  go_upto_region 6 with fail
  obtain ⟨q5, hq5⟩ : ∃ q, w4.heap.size = q := ⟨_, rfl⟩
  obtain ⟨W5, hW5⟩ : ∃ W5, w4.alloc (.cells #[.int .i64 m, .int .i64 v'] 23) = W5 := ⟨_, rfl⟩
  have hb5 := next HB4.out (show Below w4.heap.size w4 W5 by rw [← hW5]; exact (Below.refl _ _).alloc (Nat.le_refl _) _)
  have HX5 := Lib.hid (show W5.heap[q5]? = some (.cells #[.int .i64 m, .int .i64 v'] 23 (0, 0)) by rw [← hW5, ← hq5]; exact heap_alloc_new _ _)
  have HX35 := Lib.hid (bx_block HX3.out hb5)
  have HB5 := Lib.hid (next HB3.out hb5)
  have HB15 := Lib.hid (next HB1.out HB5.out)
  rw [hW5, hq5]
  have HI5 := Lib.hid (HI.out.later HB5.out)
  have CO1 := Lib.hid (offset_is bb s vv n u a 0 W5 HI5.out (by omega) (tabs_later HT.out HB15.out) O1.out)
  obtain ⟨r0, r1⟩ := two_cells HX35.out
  clear hb5 hW5 hq5 H1 H2
  go_wp2_with fail
  refine CO1.out.mono ?_
  rintro e w6 ⟨rfl, hb6⟩
  have HB6 := Lib.hid hb6
  have CO2 := Lib.hid (offset_is bb s vv m v' b 0 w6 (HI5.out.later hb6) (by omega) (tabs_later HT.out (next HB15.out hb6)) O2.out)
  obtain ⟨s0, s1⟩ := bx_cells HX5.out hb6
  clear hb6 r0 r1 CO1
  go_wp2_with fail
  refine CO2.out.mono ?_
  rintro e w7 ⟨rfl, hb7⟩
  have HB7 := Lib.hid (next HB6.out hb7)
  have HB17 := Lib.hid (next HB15.out HB7.out)
  obtain ⟨s0, s1⟩ := bx_cells HX5.out HB7.out
  obtain ⟨r0, r1⟩ := bx_cells HX35.out HB7.out
  obtain ⟨p0, p1⟩ := bx_cells HBX.out HB17.out
  have cA := alive_any w7 (tabs_later HT.out HB17.out)
  clear hb7 CO2
  rcases hcase with ⟨hnm, hab⟩ | ⟨rfl, huv, hab⟩ | ⟨rfl, huv, hab⟩ | ⟨hnm, hne, hab⟩
  all_goals
    go_wp2_with fail
    refine cA.mono ?_
    rintro e w8 ⟨rfl, hb8⟩
    obtain ⟨t0, t1⟩ := bx_cells HBX.out (next HB17.out hb8)
    have HB8 := Lib.hid (next HB17.out hb8)
    clear hb8 cA
    go_wp2_with fail
    go_ret
    exact ⟨by first | rfl | simp [*], next HBW.out HB8.out⟩
theorem back_walk (s : ByteArray) (a b : Int) (w : World) (hs : s.size ≤ 1099511627776) (ha : -9223372036854775808 ≤ a ∧ a < 9223372036854775808) (hb : -9223372036854775808 ≤ b ∧ b < 9223372036854775808) (hT : Tabs w) :
    Calls Tryd.prog 4 #[.string s, .agg #[.int .i64 a, .int .i64 b]] w (True' w) := by
  by_cases hq : okB s = false ∨ 400 < s.size
  · exact back_far s a b w hs hq hT
  · have hok : okB s = true := by
      cases h : okB s
      · exact absurd (.inl h) hq
      · rfl
    have h4 : s.size ≤ 400 := by omega
    rcases place_or s a with ⟨n, u, h1, _⟩ | h1
    · rcases place_or s b with ⟨m, v, h2, _⟩ | h2
      · exact back_right s a b n u m v w h4 hok ha hb h1 h2 hT
      · exact back_wrong s a b _ _ _ _ _ _ w h4 hok ha hb h1 h2 (.inr (.inr ⟨rfl, rfl⟩)) hT
    · rcases place_or s b with ⟨m, v, h2, _⟩ | h2
      · exact back_wrong s a b _ _ _ _ _ _ w h4 hok ha hb h1 h2 (.inr (.inl ⟨rfl, rfl⟩)) hT
      · exact back_wrong s a b _ _ _ _ _ _ w h4 hok ha hb h1 h2 (.inl ⟨rfl, rfl⟩) hT
end Go.Proofs.YtpcgcldekibgmaaDoor.L
