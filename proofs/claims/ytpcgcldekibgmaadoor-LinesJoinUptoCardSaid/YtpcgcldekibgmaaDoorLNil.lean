/- The walk of the statement 'no index' of layer 5. -/
import Derived.Test.YtpcgcldekibgmaaDoorLAlive
namespace Go.Proofs.YtpcgcldekibgmaaDoor.L
open Go.RowKit
open Go.Lib hiding intOf
open Go.Proofs.YtpcgcldekibgmaaDoor.U

theorem bx_block {W0 w : World} {q : Nat} {o : Obj} (hx : W0.heap[q]? = some o) (hb : Below W0.heap.size W0 w) : w.heap[q]? = some o :=
  (hb.block q (Array.getElem?_eq_some_iff.1 hx).1).trans hx
theorem bx_cells {W0 w : World} {q : Nat} {x y : Value} {t : TypeId} (hx : W0.heap[q]? = some (.cells #[x, y] t (0, 0))) (hb : Below W0.heap.size W0 w) :
    w.cell? ⟨q, 0, none⟩ = some x ∧ w.cell? ⟨q, 1, none⟩ = some y := two_cells (bx_block hx hb)
theorem next {W0 w w' : World} (hb : Below W0.heap.size W0 w) (hb2 : Below w.heap.size w w') : Below W0.heap.size W0 w' := hb.trans (hb2.mono hb.size)

set_option maxHeartbeats 1000000 in
set_option maxRecDepth 20000 in
theorem nil_walk (l u at' : Int) (w : World) (hT : Tabs w) :
    Calls Tryd.prog 6 #[.agg #[.int .i64 l, .int .i64 u], .int .i64 at'] w (True' w) := by
  obtain ⟨W, hW⟩ : ∃ W, w.alloc (.cells #[.int .i64 l, .int .i64 u] 23) = W := ⟨_, rfl⟩
  have hbw : Below w.heap.size w W := by rw [← hW]; exact (Below.refl _ _).alloc (Nat.le_refl _) _
  have HBX := Lib.hid (show W.heap[w.heap.size]? = some (.cells #[.int .i64 l, .int .i64 u] 23 (0, 0)) by rw [← hW]; exact heap_alloc_new _ _)
  have HBW := Lib.hid hbw
  have HT := Lib.hid hT
  clear hbw hT
  go_enter Tryd.func6, Tryd.ntmps6
  go_wp2_with fail
  refine (line_nil at' W).mono ?_
  rintro e w1 ⟨rfl, hb1⟩
  obtain ⟨p0, p1⟩ := bx_cells HBX.out hb1
  have HB1 := Lib.hid hb1
  clear hb1 hW
  go_wp2_with fail
  refine (idxOff_nil l u w1).mono ?_
  rintro e w2 ⟨rfl, hb2⟩
  have HB2 := Lib.hid (next HB1.out hb2)
  clear hb2 p0 p1
  go_wp2_with fail
  refine (place_nil at' w2).mono ?_
  rintro e w3 ⟨rfl, hb3⟩
  have HB3 := Lib.hid (next HB2.out hb3)
  clear hb3
  go_upto_region 5 with fail
  obtain ⟨W4, hW4⟩ : ∃ W4, w3.alloc (.cells #[.int .i64 0, .int .i64 0] 23) = W4 := ⟨_, rfl⟩
  have HB4 := Lib.hid (next HB3.out (show Below w3.heap.size w3 W4 by rw [← hW4]; exact (Below.refl _ _).alloc (Nat.le_refl _) _))
  rw [hW4]
  clear hW4
  have cA := alive_any W4 (tabs_later HT.out (next HBW.out HB4.out))
  go_wp2_with fail
  refine cA.mono ?_
  rintro e w5 ⟨rfl, hb5⟩
  have HB5 := Lib.hid (next HB4.out hb5)
  clear hb5 cA
  go_wp2_with fail
  refine (lines_nil w5).mono ?_
  rintro e w6 ⟨rfl, rfl⟩
  go_wp2_with fail
  go_ret
  exact ⟨rfl, next HBW.out HB5.out⟩
end Go.Proofs.YtpcgcldekibgmaaDoor.L
