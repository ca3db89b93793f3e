/- What the rows' listed variables give the walks: the library's tables, and its two errors. -/
import Derived.Test.YtfjdeacpdcnjpaaGreatDoorRows
import Derived.Test.YtfjdeacpdcnjpaaGreatDoorVEnv
import Derived.Test.YtfjdeacpdcnjpaaGreatDoorLays
import Derived.Lib.LaidTab
import Derived.Lib.LaidU8T
import Derived.Stop.LaidErr
import Derived.PinnedBridge
namespace Go.Proofs.YtfjdeacpdcnjpaaGreatDoor.V
open Go.Proofs Go.Shelf Go.RowKit

theorem iface_laid {P : Program} {W : World} {l : List (String × DataW Unit)} (hL : laidMet P l W) {n nm : String} {d : DataW Unit} {g : Nat} {ti : TypeId} {ms : Array (String × TypeId)} (hm : (n, .iface nm d) ∈ l)
    (hg : P.globalNamed n = some g) (ht : (P.globals[g]?).map (·.type) = some ti) (hi : P.underlying ti = some (.interface ms)) : ∃ te pe, W.cell? ⟨g, 0, none⟩ = some (.iface te pe) := by
  obtain ⟨g', t', cs, fuel, p, hg', ht', hv, hd⟩ := Lib.laidMet.reads hL hm
  obtain rfl := Option.some.inj (hg.symm.trans hg')
  obtain rfl := Option.some.inj (ht.symm.trans ht')
  obtain ⟨f1, u, v, hcs, _, _⟩ := iface_of_trod hi hd
  obtain ⟨l0⟩ := cs
  have e : l0 = [.iface u v] := hcs
  subst e
  exact ⟨u, v, by simpa using World.var?_cell hg hv 0⟩

theorem env_of_laid {W : World} (hL : laidMet Tryz.prog Rows.valueWritesUptoRow.laid W) : EnvW W where
  es := iface_laid hL (.tail _ (.tail _ (.tail _ (.tail _ (.tail _ (.head _)))))) (g := 4) (by kernel_rfl) (by kernel_rfl) Tryz.underlying67
  er := iface_laid hL (.tail _ (.tail _ (.tail _ (.tail _ (.head _))))) (g := 5) (by kernel_rfl) (by kernel_rfl) Tryz.underlying67
  tabs := utf8Tabs_of_readsT (U8Types.of196 U.lays) ⟨by kernel_rfl, by kernel_rfl, by kernel_rfl, by kernel_rfl, by kernel_rfl, by kernel_rfl, by kernel_rfl⟩
    (Pinned.utf8First_eq ▸ Lib.laidMet.reads hL (.tail _ (.tail _ (.tail _ (.tail _ (.tail _ (.tail _ (.head _)))))))) (Lib.laidMet.reads hL (.tail _ (.tail _ (.tail _ (.head _)))))
  pow := Lib.tabIs_of_head (P := Tryz.prog) (g := 2) (by kernel_rfl) (by kernel_rfl) Tryz.underlying126 Tryz.underlying113 (by kernel_rfl) (by kernel_rfl) hL.tail.tail
end Go.Proofs.YtfjdeacpdcnjpaaGreatDoor.V
