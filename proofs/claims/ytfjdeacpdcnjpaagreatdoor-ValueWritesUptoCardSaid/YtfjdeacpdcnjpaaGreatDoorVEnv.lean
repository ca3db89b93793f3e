/- What the program's and the library's variables hold when a call begins, and that it goes on whatever the calls do at blocks of their own. -/
import Derived.Test.YtfjdeacpdcnjpaaGreatDoorVMem
import Derived.Test.YtfjdeacpdcnjpaaGreatDoorShelf
import Derived.Lib.AppendIntMem
import Derived.Shelf.Unicode.DecodeSlow
namespace Go.Proofs.YtfjdeacpdcnjpaaGreatDoor.V
open Go.RowKit
open Go.Lib

structure EnvW (w : World) : Prop where
  es : ∃ te pe, w.cell? ⟨4, 0, none⟩ = some (.iface te pe)
  er : ∃ te pe, w.cell? ⟨5, 0, none⟩ = some (.iface te pe)
  tabs : Lib.Utf8Tabs 0 1 w
  pow : Lib.TabIs Tryz.prog w "internal/strconv.uint64pow10" .u64 Lib.pow10Tab

theorem EnvW.later {w w' : World} (h : EnvW w) (hb : Below w.heap.size w w') : EnvW w' := by
  obtain ⟨⟨a, b, h1⟩, ⟨c, d, h2⟩, h3, h4⟩ := h
  exact ⟨⟨a, b, (hb.cell (p := ⟨_, 0, none⟩) (Lib.lt_of_cell h1)).trans h1⟩, ⟨c, d, (hb.cell (p := ⟨_, 0, none⟩) (Lib.lt_of_cell h2)).trans h2⟩, Utf8Tabs_below h3 hb, tabBelow_of_tabIs h4 w' hb⟩

/-- So they hold since a world of B blocks. -/
def Env (B : Nat) (w : World) : Prop := ∃ w0 : World, w0.heap.size = B ∧ EnvW w0 ∧ Below B w0 w
theorem Env.now {B : Nat} {w : World} (h : Env B w) : EnvW w := by obtain ⟨w0, rfl, h, hb⟩ := h; exact h.later hb
theorem Env.later {B : Nat} {w w' : World} (h : Env B w) (hb : Below B w w') : Env B w' := by obtain ⟨w0, h0, h, hb0⟩ := h; exact ⟨w0, h0, h, hb0.trans hb⟩
theorem Env.size {B : Nat} {w : World} (h : Env B w) : B ≤ w.heap.size := by obtain ⟨w0, h0, _, hb⟩ := h; have := hb.size; omega
theorem Env.mut {B d : Nat} {w w' : World} (h : Env B w) (hd : B ≤ d) (hm : Mut w.heap.size d w w') : Env B w' := h.later ((hm.mono h.size).below hd)
theorem Env.start {w : World} (h : EnvW w) : Env w.heap.size w := ⟨w, rfl, h, Below.refl _ _⟩
end Go.Proofs.YtfjdeacpdcnjpaaGreatDoor.V
