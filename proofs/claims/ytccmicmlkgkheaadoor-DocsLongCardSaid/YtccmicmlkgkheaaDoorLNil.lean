/- Blocks of two cells later on; Offset and Place of an index, where their answers are known. -/
import Derived.Test.YtccmicmlkgkheaaDoorLAlive
namespace Go.Proofs.YtccmicmlkgkheaaDoor.L
open Go.RowKit
open Go.Lib hiding intOf
open Go.Proofs.YtccmicmlkgkheaaDoor.U

theorem bx_block {W0 w : World} {q : Nat} {o : Obj} (hx : W0.heap[q]? = some o) (hb : Below W0.heap.size W0 w) : w.heap[q]? = some o :=
  (hb.block q (Array.getElem?_eq_some_iff.1 hx).1).trans hx
theorem bx_cells {W0 w : World} {q : Nat} {x y : Value} {t : TypeId} (hx : W0.heap[q]? = some (.cells #[x, y] t (0, 0))) (hb : Below W0.heap.size W0 w) :
    w.cell? ⟨q, 0, none⟩ = some x ∧ w.cell? ⟨q, 1, none⟩ = some y := two_cells (bx_block hx hb)
theorem next {W0 w w' : World} (hb : Below W0.heap.size W0 w) (hb2 : Below w.heap.size w w') : Below W0.heap.size W0 w' := hb.trans (hb2.mono hb.size)

theorem ret_bool {a b : Bool} (h : a = b) : Ending.returned (.bool a) = .returned (.bool b) := by rw [h]
theorem offset_is (b : Nat) (s : ByteArray) (v : Value) (l u a c : Int) (w : World) (h : Idx b s v w) (hs : s.size ≤ 1099511627776) (hT : Tabs w) (ho : offL s l u = (a, c)) :
    Calls Tryd.prog 48 #[.pointer (some ⟨b, 0, none⟩), .agg #[.int .i64 l, .int .i64 u]] w fun e w' => e = .returned (.tuple #[.int .i64 a, .int .i64 c]) ∧ Below w.heap.size w w' := by
  have := idxOff_any b s v l u w h hs hT
  rw [ho] at this
  exact this

end Go.Proofs.YtccmicmlkgkheaaDoor.L
