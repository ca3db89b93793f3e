/- The contracts of right. -/
import Derived.Test.YtfjdeacpdcnjpaaGreatDoorVNest
import Derived.Test.YtfjdeacpdcnjpaaGreatDoorVFirst
import Derived.Test.YtfjdeacpdcnjpaaGreatDoorVRead13
namespace Go.Proofs.YtfjdeacpdcnjpaaGreatDoor.V
open Go.RowKit Go.WideMaps Go.Maps
open Go.Lib

def elseP : Val → Bool
  | .mk so on n t l ks => (!on || so == 1) && (n == 0 || so == 2) && (t.isEmpty || so == 3) && (l.isEmpty || so == 4 || so == 5) && (ks.isEmpty || so == 5)

set_option maxHeartbeats 2000000 in
theorem else_any (so : Int) (on : Bool) (n : Int) (t : List UInt8) (l : List Val) (ks : List (List UInt8)) (a1 a2 : Option Addr) (c1 c2 : Nat) (w : World) (_ : t.length ≤ 1099511627776) (_ : l.length ≤ 1099511627776) (hk : ks.length ≤ 1099511627776) :
    Calls Tryz.prog 41 #[arg (.mk so on n t l ks) (.slice a1 l.length c1) (.slice a2 ks.length c2)] w fun e w' => e = .returned (.bool (elseP (.mk so on n t l ks))) ∧ Below w.heap.size w w' := by
  simp only [arg, six', six, strCell]
  go_enter Tryz.func41, Tryz.ntmps41
  go_wp2_with fail
  all_goals go_ret
  all_goals refine ⟨?_, (Below.refl _ _).alloc (Nat.le_refl _) _⟩
  all_goals (have hk0 : ((ks.length : Int) == 0) = ks.isEmpty := by cases ks <;> simp; omega)
  all_goals simp_all [elseP]

end Go.Proofs.YtfjdeacpdcnjpaaGreatDoor.V
