/- The walk of the statement 'there and back' of layer 1: it answers true at every text and every unit. -/
import Derived.Test.YtdnipjbknkmhbaaDoorBackEnd
import Derived.Test.YtdnipjbknkmhbaaDoorBackMid
import Derived.Test.YtdnipjbknkmhbaaDoorBackGap
namespace Go.Proofs.YtdnipjbknkmhbaaDoor.U
open Go.RowKit
open Go.Lib hiding intOf

theorem back_walk (s : ByteArray) (unit : Int) (w : World) (hT : Tabs w) :
    Calls Tryd.prog 5 #[.string s, .int .i64 unit] w (True' w) := by
  by_cases h : 400 < s.size
  · exact back_long s unit w h hT
  · cases hok : okB s
    · exact back_wrong s unit w (by omega) hok hT
    · rcases off_or (items s) 0 0 unit with hO | ⟨a, hO⟩
      · exact back_gap s unit w (by omega) hok hO hT
      · by_cases hE : a = s.size
        · exact there_end s unit a w (by omega) hok hO hE hT
        · exact there_mid s unit a w (by omega) hok hO hE hT
end Go.Proofs.YtdnipjbknkmhbaaDoor.U
