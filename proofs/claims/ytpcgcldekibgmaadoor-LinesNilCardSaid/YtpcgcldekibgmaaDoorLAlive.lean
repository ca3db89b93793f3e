/- The live question that each statement of layer 5 asks is answered as it is fixed. Places compared. -/
import Derived.Test.YtpcgcldekibgmaaDoorLPlace
import Derived.Laws.StructEq
namespace Go.Proofs.YtpcgcldekibgmaaDoor.L
open Go.RowKit
open Go.Lib hiding intOf
open Go.Proofs.YtpcgcldekibgmaaDoor.U

theorem place_eq (d : Nat) (a b a' b' : Int) (W : World) : (Op.equalIn (d + 1 + 1) 23 (.agg #[.int .i64 a, .int .i64 b]) (.agg #[.int .i64 a', .int .i64 b'])).run Tryd.prog W = .ok (a == a' && b == b') W := by
  rw [run_equalIn_agg _ _ _ _ _ (by kernel_rfl) (by kernel_rfl)]
  cases h : (a == a') <;> cases h2 : (b == b') <;> simp [Op.eqFields, go_sem, h] <;> simpa using h2
theorem eql_place (a b a' b' : Int) (W : World) : (binOp .eql 23 (.agg #[.int .i64 a, .int .i64 b]) (.agg #[.int .i64 a', .int .i64 b'])).run Tryd.prog W = .ok (.bool (a == a' && b == b')) W := by
  rw [run_eql_struct, show (10000 : Nat) = 9998 + 1 + 1 from rfl, place_eq]; rfl

def tA : ByteArray := ⟨#[97, 98, 10, 240, 159, 152, 128, 99, 10]⟩
theorem a0 : okB tA = true := by kernel_rfl
theorem a1 : offL tA 1 2 = (7, 0) := by kernel_rfl
theorem a2 : placeL tA 8 = (1, 3, 0) := by kernel_rfl
theorem a3 : offL tA 1 1 = (0, 51) := by kernel_rfl
theorem a4 : lineL tA 0 = (⟨#[97, 98]⟩, 0) := by kernel_rfl
theorem a5 : (ends tA).length + 1 = 3 := by kernel_rfl

def True' (w : World) (e : Ending) (w' : World) : Prop := e = .returned (.bool true) ∧ Below w.heap.size w w'
theorem tabs_later {w w' : World} (hT : Tabs w) (hb : Below w.heap.size w w') : Tabs w' := Utf8Tabs_below hT hb

theorem new_ok (s : ByteArray) (w : World) (hs : s.size ≤ 1099511627776) (hT : Tabs w) (hok : okB s = true) :
    Calls Tryd.prog 9 #[.string s] w fun e w' => ∃ b v, e = .returned (.tuple #[.pointer (some ⟨b, 0, none⟩), .int .i64 0]) ∧ Idx b s v w' ∧ Below w.heap.size w w' := by
  refine (new_any s w hs hT).mono ?_
  rintro e w1 ⟨hb1, ⟨_, b, v, rfl, hi, _⟩ | ⟨hf, _⟩⟩
  · exact ⟨b, v, rfl, hi, hb1⟩
  · rw [hok] at hf; cases hf
theorem new_no (s : ByteArray) (w : World) (hs : s.size ≤ 1099511627776) (hT : Tabs w) (hok : okB s = false) :
    Calls Tryd.prog 9 #[.string s] w fun e w' => e = .returned (.tuple #[.pointer none, .int .i64 11]) ∧ Below w.heap.size w w' := by
  refine (new_any s w hs hT).mono ?_
  rintro e w1 ⟨hb1, ⟨hf, _⟩ | ⟨_, rfl⟩⟩
  · rw [hok] at hf; cases hf
  · exact ⟨rfl, hb1⟩

set_option maxHeartbeats 2000000 in
set_option maxRecDepth 100000 in
theorem alive_any (w : World) (hT : Tabs w) : Calls Tryd.prog 7 #[] w (True' w) := by
  have cN := new_ok tA w (by decide) hT a0
  have HT := Lib.hid hT
  clear hT
  go_enter Tryd.func7, Tryd.ntmps7
  go_wp2_with fail
  refine cN.mono ?_
  rintro e w1 ⟨b, v, rfl, hi, hb1⟩
  have HB1 := Lib.hid hb1
  have HI := Lib.hid hi
  have c1 := fun W (hb : Below w1.heap.size w1 W) => idxOff_any b tA v 1 2 W (hi.later hb) (by decide) (tabs_later HT.out (hb1.trans (hb.mono hb1.size)))
  have c2 := fun W (hb : Below w1.heap.size w1 W) => place_any b tA v 8 W (hi.later hb) (by decide) (by decide) (tabs_later HT.out (hb1.trans (hb.mono hb1.size)))
  have c3 := fun W (hb : Below w1.heap.size w1 W) => idxOff_any b tA v 1 1 W (hi.later hb) (by decide) (tabs_later HT.out (hb1.trans (hb.mono hb1.size)))
  have c4 := fun W (hb : Below w1.heap.size w1 W) => line_any b tA v 0 W (hi.later hb) (by decide)
  have c5 := fun W (hb : Below w1.heap.size w1 W) => lines_any b tA v W (hi.later hb) (by decide)
  rw [a1] at c1
  rw [a2] at c2
  rw [a3] at c3
  rw [a4] at c4
  rw [a5] at c5
  have C1 := Lib.hid c1
  have C2 := Lib.hid c2
  have C3 := Lib.hid c3
  have C4 := Lib.hid c4
  have C5 := Lib.hid c5
  clear c1 c2 c3 c4 c5 hi hb1 cN HI
  go_wp2_with fail
  refine (C1.out w1 (Below.refl _ _)).mono ?_
  rintro e w2 ⟨rfl, hb2⟩
  have HB2 := Lib.hid hb2
  clear hb2
  go_wp2_with fail
  refine (C2.out w2 HB2.out).mono ?_
  rintro e w3 ⟨rfl, hb3⟩
  go_upto_region 4 with fail
  obtain ⟨q, hq⟩ : ∃ q, w3.heap.size = q := ⟨_, rfl⟩
  obtain ⟨W4, hW4⟩ : ∃ W4, w3.alloc (.cells #[.int .i64 1, .int .i64 3] 23) = W4 := ⟨_, rfl⟩
  have hx4 : W4.heap[q]? = some (.cells #[.int .i64 1, .int .i64 3] 23 (0, 0)) := by rw [← hW4, ← hq]; exact heap_alloc_new _ _
  have hz4 : q < W4.heap.size := by rw [← hW4, ← hq, World.size_alloc]; omega
  have hb4 : Below w1.heap.size w1 W4 := (HB2.out.trans (hb3.mono HB2.out.size)).trans (by rw [← hW4]; exact (Below.refl _ _).alloc (by have := HB2.out.size; have := hb3.size; omega) _)
  rw [hW4, hq]
  have HB4 := Lib.hid hb4
  have HX4 := Lib.hid hx4
  clear hb3 hW4 hq hb4 hx4 HB2
  go_wp2_with fail
  refine (C3.out W4 HB4.out).mono ?_
  rintro e w5 ⟨rfl, hb5⟩
  have HB5 := Lib.hid hb5
  clear hb5
  go_wp2_with fail
  refine (C4.out w5 (HB4.out.trans (HB5.out.mono HB4.out.size))).mono ?_
  rintro e w6 ⟨rfl, hb6⟩
  have hb6' := HB5.out.trans (hb6.mono HB5.out.size)
  have HB6 := Lib.hid (HB4.out.trans (hb6'.mono HB4.out.size))
  obtain ⟨p0, p1⟩ := two_cells ((hb6'.block q hz4).trans HX4.out)
  have heq := fun W => eql_place 1 3 1 3 W
  clear hb6 hb6' HB4 HB5 C1 C2 C3 C4
  go_wp2_with (go_at_call 11; refine (C5.out w6 HB6.out).mono ?_; rintro e w7 ⟨rfl, rfl⟩)
  go_ret
  exact ⟨rfl, HB1.out.trans (HB6.out.mono HB1.out.size)⟩
end Go.Proofs.YtpcgcldekibgmaaDoor.L
