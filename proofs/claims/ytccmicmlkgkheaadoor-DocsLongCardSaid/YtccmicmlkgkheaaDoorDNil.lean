/- No store: what its calls answer. -/
import Derived.Test.YtccmicmlkgkheaaDoorDTwo2
namespace Go.Proofs.YtccmicmlkgkheaaDoor.D
open Go.RowKit
open Go.Lib hiding intOf
open Go.Proofs.YtccmicmlkgkheaaDoor.U Go.Proofs.YtccmicmlkgkheaaDoor.L Go.Proofs.YtccmicmlkgkheaaDoor.E

def Says (v : Value) (w : World) (e : Ending) (w' : World) : Prop := e = .returned v ∧ Below w.heap.size w w'
set_option maxRecDepth 20000 in
theorem nil_get (n : ByteArray) (w : World) : Calls Tryd.prog 10 #[.pointer none, .string n] w (Says (.tuple #[.agg #[.string ⟨#[]⟩, .int .i64 0, .string ⟨#[]⟩], .bool false]) w) := by
  obtain ⟨W, hW⟩ : ∃ W, w.alloc (.cells #[.string ⟨#[]⟩, .int .i64 0, .string ⟨#[]⟩] 30) = W := ⟨_, rfl⟩
  have hbw : Below w.heap.size w W := by rw [← hW]; exact (Below.refl _ _).alloc (Nat.le_refl _) _
  have hx : W.heap[w.heap.size]? = some (.cells #[.string ⟨#[]⟩, .int .i64 0, .string ⟨#[]⟩] 30 (0, 0)) := by rw [← hW]; exact heap_alloc_new _ _
  obtain ⟨⟨x0, x1, x2⟩, g0, g1, g2⟩ := sto_cells hx
  have HBW := Lib.hid hbw
  clear hbw
  go_enter Tryd.func10, Tryd.ntmps10
  go_wp2_with fail
  refine bodyPost_ret (v := .tuple #[.agg #[.string ⟨#[]⟩, .int .i64 0, .string ⟨#[]⟩], .bool false]) ((results_doc (fn := Tryd.f10) (p := 4) (u := 5) (by rfl) (by rfl) (set_row hx)).trans rfl) rfl ?_
  exact ⟨rfl, (((HBW.out.setCell (Nat.le_refl _) _).setCell (Nat.le_refl _) _).setCell (Nat.le_refl _) _)⟩
set_option maxRecDepth 20000 in
theorem nil_newer (n : ByteArray) (v : Int) (w : World) : Calls Tryd.prog 28 #[.pointer none, .string n, .int .i64 v] w (Says (.tuple #[.agg #[.string ⟨#[]⟩, .int .i64 0, .string ⟨#[]⟩], .int .i64 1]) w) := by
  obtain ⟨W, hW⟩ : ∃ W, w.alloc (.cells #[.string ⟨#[]⟩, .int .i64 0, .string ⟨#[]⟩] 30) = W := ⟨_, rfl⟩
  have hbw : Below w.heap.size w W := by rw [← hW]; exact (Below.refl _ _).alloc (Nat.le_refl _) _
  have hx : W.heap[w.heap.size]? = some (.cells #[.string ⟨#[]⟩, .int .i64 0, .string ⟨#[]⟩] 30 (0, 0)) := by rw [← hW]; exact heap_alloc_new _ _
  obtain ⟨⟨x0, x1, x2⟩, g0, g1, g2⟩ := sto_cells hx
  have HBW := Lib.hid hbw
  clear hbw
  go_enter Tryd.func28, Tryd.ntmps28
  go_wp2_with fail
  refine bodyPost_ret (v := .tuple #[.agg #[.string ⟨#[]⟩, .int .i64 0, .string ⟨#[]⟩], .int .i64 1]) ((results_doc (fn := Tryd.f28) (p := 6) (u := 7) (by rfl) (by rfl) (set_row hx)).trans rfl) rfl ?_
  exact ⟨rfl, (((HBW.out.setCell (Nat.le_refl _) _).setCell (Nat.le_refl _) _).setCell (Nat.le_refl _) _)⟩
set_option maxRecDepth 20000 in
theorem nil_open (n t : ByteArray) (v : Int) (w : World) : Calls Tryd.prog 16 #[.pointer none, .agg #[.string n, .int .i64 v, .string t]] w (Says (.int .i64 1) w) := by
  go_enter Tryd.func16, Tryd.ntmps16
  go_wp2_with fail
  go_ret
  exact ⟨rfl, (Below.refl _ _).alloc (Nat.le_refl _) _⟩
set_option maxRecDepth 20000 in
theorem nil_change (n : ByteArray) (v : Int) (ev : Value) (w : World) : Calls Tryd.prog 17 #[.pointer none, .string n, .int .i64 v, ev] w (Says (.int .i64 1) w) := by
  have cN := nil_newer n v w
  go_enter Tryd.func17, Tryd.ntmps17
  go_wp2_with fail
  refine cN.mono ?_
  rintro e w1 ⟨rfl, hb1⟩
  have HB1 := Lib.hid hb1
  clear cN hb1
  go_wp2_with fail
  go_ret
  exact ⟨rfl, HB1.out.alloc HB1.out.size _⟩
set_option maxRecDepth 20000 in
theorem nil_whole (n t : ByteArray) (v : Int) (w : World) : Calls Tryd.prog 18 #[.pointer none, .string n, .int .i64 v, .string t] w (Says (.int .i64 1) w) := by
  have cN := nil_newer n v w
  go_enter Tryd.func18, Tryd.ntmps18
  go_wp2_with fail
  refine cN.mono ?_
  rintro e w1 ⟨rfl, hb1⟩
  have HB1 := Lib.hid hb1
  clear cN hb1
  go_wp2_with fail
  go_ret
  exact ⟨rfl, HB1.out.alloc HB1.out.size _⟩
set_option maxRecDepth 20000 in
theorem nil_close (n : ByteArray) (w : World) : Calls Tryd.prog 19 #[.pointer none, .string n] w (Says (.int .i64 1) w) := by
  go_enter Tryd.func19, Tryd.ntmps19
  go_wp2_with fail
  go_ret
  exact ⟨rfl, Below.refl _ _⟩
set_option maxRecDepth 20000 in
theorem nil_all (w : World) : Calls Tryd.prog 12 #[.pointer none] w (Says (.slice none 0 0) w) := by
  go_enter Tryd.func12, Tryd.ntmps12
  go_wp2_with fail
  go_ret
  exact ⟨rfl, Below.refl _ _⟩
set_option maxRecDepth 20000 in
theorem nil_size (w : World) : Calls Tryd.prog 13 #[.pointer none] w (Says (.int .i64 0) w) := by
  go_enter Tryd.func13, Tryd.ntmps13
  go_wp2_with fail
  go_ret
  exact ⟨rfl, Below.refl _ _⟩
end Go.Proofs.YtccmicmlkgkheaaDoor.D
