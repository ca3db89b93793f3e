/- The contract of package utf's Right, at a seat that has nothing else of utf. -/
import Derived.Test.YtapjomdplibanaaDoorProg
import Derived.Test.YtapjomdplibanaaDoorPlain
import Derived.Test.YtapjomdplibanaaDoorLays
import Derived.WalkKit
import Derived.WalkMore
import Derived.WalkSmall
import Derived.Below
import Derived.Lib.Hide
namespace Go.Proofs.YtapjomdplibanaaDoor.U
open Go.RowKit
open Go.Lib hiding intOf

def Tabs (w : World) : Prop := Lib.Utf8Tabs 0 1 w
theorem Tabs.later {w w' : World} (hT : Tabs w) (hb : Below w.heap.size w w') : Tabs w' := Utf8Tabs_below hT hb
/-- utf.Right. -/
theorem right_any (s : ByteArray) (w : World) (hs : s.size ≤ 1099511627776) (hT : Tabs w) :
    Calls Tryd.prog 27 #[.string s] w fun e w' => e = .returned (.bool (okB s)) ∧ Below w.heap.size w w' := by
  have cV : Calls Tryd.prog 38 #[.string s] w (fun e w' => e = .returned (.bool (Lib.validD s.data.toList)) ∧ Below w.heap.size w w') := Any.utf8_ValidString lays s w (by omega) hT
  rw [valid_ok s] at cV
  generalize okB s = V at cV ⊢
  go_enter Tryd.func27, Tryd.ntmps27
  go_wp2_with (go_at_call 38; refine cV.mono ?_; rintro e w' ⟨rfl, hb⟩)
  go_ret
  exact ⟨rfl, hb⟩
end Go.Proofs.YtapjomdplibanaaDoor.U
