/- What memory is as it was, but for one block; and the reader's block: a text, a place, how many brackets are open. It imports nothing of the program but its types' numbers. -/
import Derived.Test.YtfjdeacpdcnjpaaGreatDoorProg
import Derived.Test.YtfjdeacpdcnjpaaGreatDoorVPlain
import Derived.WalkKit
import Derived.WalkMore
import Derived.WalkSmall
import Derived.Below
import Derived.Laws.Rows
import Derived.Lib.Hide
import Derived.Lib.OthersKept
import Derived.Lib.SmallJoins
namespace Go.Proofs.YtfjdeacpdcnjpaaGreatDoor.V
open Go.RowKit
open Go.Lib

/-- Below B all is as it was, but for block d. -/
structure Mut (B d : Nat) (w w' : World) : Prop where
  os : w'.os = w.os
  tape : w'.tape = w.tape
  output : w'.output = w.output
  size : w.heap.size ≤ w'.heap.size
  block : ∀ k, k < B → k ≠ d → w'.heap[k]? = w.heap[k]?

theorem Mut.refl (B d : Nat) (w : World) : Mut B d w w := ⟨rfl, rfl, rfl, Nat.le_refl _, fun _ _ _ => rfl⟩
theorem Mut.trans {B d : Nat} {a b c : World} (h : Mut B d a b) (k : Mut B d b c) : Mut B d a c :=
  ⟨k.os.trans h.os, k.tape.trans h.tape, k.output.trans h.output, Nat.le_trans h.size k.size, fun i hi hd => (k.block i hi hd).trans (h.block i hi hd)⟩
theorem Mut.mono {B B' d : Nat} {w w' : World} (h : Mut B d w w') (hB : B' ≤ B) : Mut B' d w w' := ⟨h.os, h.tape, h.output, h.size, fun k hk => h.block k (Nat.lt_of_lt_of_le hk hB)⟩
theorem Mut.of_below {B d : Nat} {w w' : World} (h : Below B w w') : Mut B d w w' := ⟨h.os, h.tape, h.output, h.size, fun k hk _ => h.block k hk⟩
theorem Mut.setCell {B d : Nat} {a w : World} (h : Mut B d a w) (i : Nat) (v : Value) : Mut B d a (w.setCell ⟨d, i, none⟩ v) := by
  refine ⟨h.os, h.tape, h.output, by simpa using h.size, fun k hk hd => ?_⟩
  rw [Below.heap_setCell _ _ _ _ hd]
  exact h.block k hk hd
theorem Mut.setNew {B d : Nat} {a w : World} (h : Mut B d a w) (p : Addr) (hp : B ≤ p.block) (v : Value) : Mut B d a (w.setCell p v) := by
  refine ⟨h.os, h.tape, h.output, by simpa using h.size, fun k hk hd => ?_⟩
  rw [Below.heap_setCell _ _ _ _ (by omega)]
  exact h.block k hk hd
theorem Mut.alloc {B d : Nat} {a w : World} (h : Mut B d a w) (hB : B ≤ w.heap.size) (o : Obj) : Mut B d a (w.alloc o) :=
  h.trans (Mut.of_below ((Below.refl B w).alloc hB o))
theorem Mut.drewN {B d : Nat} {a w : World} (h : Mut B d a w) (n : Nat) : Mut B d a (w.drewN n) := ⟨h.os, h.tape, h.output, h.size, h.block⟩
/-- Where the block itself is as it was, all is. -/
theorem Mut.below {B d : Nat} {w w' : World} (h : Mut B d w w') (hd : B ≤ d) : Below B w w' := ⟨h.os, h.tape, h.output, h.size, fun k hk => h.block k hk (by omega)⟩

/-- The reader's block. -/
def Rd (d : Nat) (s : ByteArray) (at' o : Int) (w : World) : Prop := w.heap[d]? = some (.cells #[.string s, .int .i64 at', .int .i64 o] 64 (0, 0))

section
variable {d : Nat} {s : ByteArray} {at' o : Int} {w w' : World}
theorem Rd.c0 (h : Rd d s at' o w) : w.cell? ⟨d, 0, none⟩ = some (.string s) := by unfold Rd at h; simp [World.cell?, h]
theorem Rd.c1 (h : Rd d s at' o w) : w.cell? ⟨d, 1, none⟩ = some (.int .i64 at') := by unfold Rd at h; simp [World.cell?, h]
theorem Rd.c2 (h : Rd d s at' o w) : w.cell? ⟨d, 2, none⟩ = some (.int .i64 o) := by unfold Rd at h; simp [World.cell?, h]
theorem Rd.f1 (h : Rd d s at' o w) : w.frozen? ⟨d, 1, none⟩ = false := by unfold Rd at h; simp [World.frozen?, h]
theorem Rd.f2 (h : Rd d s at' o w) : w.frozen? ⟨d, 2, none⟩ = false := by unfold Rd at h; simp [World.frozen?, h]
theorem Rd.lt (h : Rd d s at' o w) : d < w.heap.size := (Array.getElem?_eq_some_iff.1 h).1
theorem Rd.set1 (h : Rd d s at' o w) (x : Int) : Rd d s x o (w.setCell ⟨d, 1, none⟩ (.int .i64 x)) := Go.Joins.block_setCell h _
theorem Rd.set2 (h : Rd d s at' o w) (x : Int) : Rd d s at' x (w.setCell ⟨d, 2, none⟩ (.int .i64 x)) := Go.Joins.block_setCell h _
theorem Rd.drewN (h : Rd d s at' o w) (n : Nat) : Rd d s at' o (w.drewN n) := h
theorem Rd.below (h : Rd d s at' o w) (hb : Below w.heap.size w w') : Rd d s at' o w' := (hb.block d h.lt).trans h
theorem Rd.alloc (h : Rd d s at' o w) (ob : Obj) : Rd d s at' o (w.alloc ob) := h.below ((Below.refl _ _).alloc (Nat.le_refl _) ob)
theorem Rd.setOther (h : Rd d s at' o w) (p : Addr) (hp : d ≠ p.block) (v : Value) : Rd d s at' o (w.setCell p v) := (Below.heap_setCell _ _ _ _ hp).trans h
end
end Go.Proofs.YtfjdeacpdcnjpaaGreatDoor.V
