/- How bytes lie in memory, and what the program's table holds. -/
import Derived.Test.YtojdginbaaoidaaDoorShelf
import Derived.Test.YtojdginbaaoidaaDoorFRefPlain
import Derived.WalkKit
import Derived.WalkMore
import Derived.WalkSmall
import Derived.Below
import Derived.Laws.Rows
import Derived.Lib.Hide
import Derived.Lib.OthersKept
import Derived.Lib.SmallJoins
import Derived.Lib.AppendIntMem
import Derived.Lib.AtoiErrMem
namespace Go.Proofs.YtojdginbaaoidaaDoor.F
open Go.RowKit
open Go.Lib

def u8 (c : UInt8) : Value := .int .u8 (c.toNat : Int)
/-- From a place on memory holds these bytes. -/
def CellsAt (W : World) (g off : Nat) (l : List UInt8) : Prop := ∀ j (h : j < l.length), W.cell? ⟨g, off + j, none⟩ = some (.int .u8 (l[j].toNat : Int))
theorem CellsAt.later {W W' : World} {g off : Nat} {l : List UInt8} (h : CellsAt W g off l) (hb : W'.heap[g]? = W.heap[g]?) : CellsAt W' g off l := fun j hj => (World.cell?_of_block (a := ⟨g, off + j, none⟩) hb).trans (h j hj)
theorem CellsAt.drop {W : World} {g off : Nat} {l : List UInt8} (h : CellsAt W g off l) (k : Nat) : CellsAt W g (off + k) (l.drop k) := fun j hj => by
  have hj' : k + j < l.length := by simp at hj; omega
  have := h (k + j) hj'
  rw [Nat.add_assoc, this, List.getElem_drop]
theorem CellsAt.lt {W : World} {g off : Nat} {l : List UInt8} (h : CellsAt W g off l) (hl : l ≠ []) : g < W.heap.size := by
  cases l with
  | nil => exact absurd rfl hl
  | cons x r => exact lt_of_cell (h 0 (by simp))
/-- A slice's place, and what it has. -/
def LiesAt (W : World) (a : Option Addr) (l : List UInt8) : Prop := l = [] ∨ ∃ g off, a = some ⟨g, off, none⟩ ∧ CellsAt W g off l
theorem LiesAt.later {W W' : World} {a : Option Addr} {l : List UInt8} (h : LiesAt W a l) (hb : Below W.heap.size W W') : LiesAt W' a l := by
  rcases h with h | ⟨g, off, h1, h2⟩
  · exact .inl h
  · by_cases hl : l = []
    · exact .inl hl
    · exact .inr ⟨g, off, h1, h2.later (hb.block g (h2.lt hl))⟩

def EnvF (w : World) : Prop := Lib.TabIs Tryd.prog w "internal/strconv.uint64pow10" .u64 Lib.pow10Tab
theorem EnvF.later {w w' : World} (h : EnvF w) (hb : Below w.heap.size w w') : EnvF w' := tabBelow_of_tabIs h w' hb

theorem u8_eqI {a b : UInt8} (h : a = b) : ((a.toNat : Int) == (b.toNat : Int)) = true := by subst h; simp
theorem u8_neI {a b : UInt8} (h : ¬ a = b) : ((a.toNat : Int) == (b.toNat : Int)) = false := by
  have : a.toNat ≠ b.toNat := fun h2 => h (UInt8.toNat_inj.1 h2)
  simp; omega
end Go.Proofs.YtojdginbaaoidaaDoor.F
