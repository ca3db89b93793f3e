/- The walk of the statement 'tells' of layer 1: at every text, unit and byte the calls answer as the document's own answers do, and it answers true. -/
import Derived.Test.YtdnipjbknkmhbaaDoorRef
namespace Go.Proofs.YtdnipjbknkmhbaaDoor.U
open Go.RowKit
open Go.Lib hiding intOf

set_option maxRecDepth 100000 in
theorem tells_long (s : ByteArray) (unit at' : Int) (w : World) (h : 400 < s.size) (hT : Tabs w) :
    Calls Tryd.prog 3 #[.string s, .int .i64 unit, .int .i64 at'] w (True' w) := by
  have cA := alive_any w hT
  have hz : (400 : Int) < (s.size : Int) := by omega
  clear hT
  go_enter Tryd.func3, Tryd.ntmps3
  go_wp2_with (go_at_call 7; refine cA.mono ?_; rintro e w1 ⟨rfl, hb⟩)
  go_ret
  exact ⟨rfl, hb⟩
theorem ref_offset_is (s : ByteArray) (unit a c : Int) (w : World) (hs : s.size ≤ 400) (h : offB s unit = (a, c)) :
    Calls Tryd.prog 9 #[.string s, .int .i64 unit] w fun e w' => e = .returned (.tuple #[.int .i64 a, .int .i64 c]) ∧ Below w.heap.size w w' :=
  (ref_offset s unit w hs).mono fun e w' ⟨he, hb⟩ => by rw [h] at he; exact ⟨he, hb⟩
theorem ref_unit_is (s : ByteArray) (at' a c : Int) (w : World) (hs : s.size ≤ 400) (h : uniB s at' = (a, c)) :
    Calls Tryd.prog 11 #[.string s, .int .i64 at'] w fun e w' => e = .returned (.tuple #[.int .i64 a, .int .i64 c]) ∧ Below w.heap.size w w' :=
  (ref_unit s at' w hs).mono fun e w' ⟨he, hb⟩ => by rw [h] at he; exact ⟨he, hb⟩
theorem ref_cut_is (s : ByteArray) (most : Int) (t : ByteArray) (w : World) (hs : s.size ≤ 400) (h : cutB s most = t) :
    Calls Tryd.prog 15 #[.string s, .int .i64 most] w fun e w' => e = .returned (.string t) ∧ Below w.heap.size w w' :=
  (ref_cut s most w hs).mono fun e w' ⟨he, hb⟩ => by rw [h] at he; exact ⟨he, hb⟩

set_option maxRecDepth 100000 in
set_option maxHeartbeats 2000000 in
theorem tells_short (s : ByteArray) (unit at' : Int) (w : World) (h : s.size ≤ 400) (hT : Tabs w) :
    Calls Tryd.prog 3 #[.string s, .int .i64 unit, .int .i64 at'] w (True' w) := by
  have hz : ¬ (400 : Int) < (s.size : Int) := by omega
  obtain ⟨a, c, ho⟩ : ∃ a c, offB s unit = (a, c) := ⟨_, _, rfl⟩
  obtain ⟨b, d, hu⟩ : ∃ b d, uniB s at' = (b, d) := ⟨_, _, rfl⟩
  obtain ⟨t, ht⟩ : ∃ t, cutB s at' = t := ⟨_, rfl⟩
  have c1 : ∀ W, Below w.heap.size w W → _ := fun W hb => chain hb (offset_is s unit a c W (by omega) (tabs_later hT hb) ho)
  have c2 : ∀ W, Below w.heap.size w W → _ := fun W hb => chain hb (ref_offset_is s unit a c W h ho)
  have c3 : ∀ W, Below w.heap.size w W → _ := fun W hb => chain hb (unit_is s at' b d W (by omega) (tabs_later hT hb) hu)
  have c4 : ∀ W, Below w.heap.size w W → _ := fun W hb => chain hb (ref_unit_is s at' b d W h hu)
  have cA : ∀ W, Below w.heap.size w W → _ := fun W hb => chain hb (alive_any W (tabs_later hT hb))
  have c5 : ∀ W, Below w.heap.size w W → _ := fun W hb => chain hb (right_any s W (by omega) (tabs_later hT hb))
  have c6 : ∀ W, Below w.heap.size w W → _ := fun W hb => chain hb (ref_right s W h)
  have c7 : ∀ W, Below w.heap.size w W → _ := fun W hb => chain hb (cut_is s at' t W (by omega) (tabs_later hT hb) ht)
  have c8 : ∀ W, Below w.heap.size w W → _ := fun W hb => chain hb (ref_cut_is s at' t W h ht)
  have h0 := Below.refl w.heap.size w
  clear hT ho hu ht
  generalize okB s = ok at c5 c6
  go_enter Tryd.func3, Tryd.ntmps3
  go_wp2_with fail
  refine (c1 w h0).mono ?_
  rintro e w1 ⟨rfl, hb1⟩
  clear c1
  go_wp2_with fail
  refine (c2 w1 hb1).mono ?_
  rintro e w2 ⟨rfl, hb2⟩
  clear c2
  go_wp2_with fail
  refine (c3 w2 hb2).mono ?_
  rintro e w3 ⟨rfl, hb3⟩
  clear c3
  go_wp2_with fail
  refine (c4 w3 hb3).mono ?_
  rintro e w4 ⟨rfl, hb4⟩
  clear c4
  go_wp2_with fail
  refine (cA w4 hb4).mono ?_
  rintro e w5 ⟨rfl, hb5⟩
  clear cA
  go_wp2_with fail
  refine (c5 w5 hb5).mono ?_
  rintro e w6 ⟨rfl, hb6⟩
  clear c5
  go_wp2_with fail
  refine (c6 w6 hb6).mono ?_
  rintro e w7 ⟨rfl, hb7⟩
  clear c6
  go_wp2_with fail
  refine (c7 w7 hb7).mono ?_
  rintro e w8 ⟨rfl, hb8⟩
  clear c7
  go_wp2_with fail
  refine (c8 w8 hb8).mono ?_
  rintro e w9 ⟨rfl, hb9⟩
  clear c8
  go_wp2
  go_ret
  exact ⟨rfl, hb9⟩
theorem tells_walk (s : ByteArray) (unit at' : Int) (w : World) (hT : Tabs w) :
    Calls Tryd.prog 3 #[.string s, .int .i64 unit, .int .i64 at'] w (True' w) := by
  by_cases h : 400 < s.size
  · exact tells_long s unit at' w h hT
  · exact tells_short s unit at' w (by omega) hT
end Go.Proofs.YtdnipjbknkmhbaaDoor.U
