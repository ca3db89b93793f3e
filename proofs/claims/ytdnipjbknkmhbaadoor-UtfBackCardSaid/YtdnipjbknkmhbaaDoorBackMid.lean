/- The walk of 'there and back' for a unit within a right text. -/
import Derived.Test.YtdnipjbknkmhbaaDoorBackBase
namespace Go.Proofs.YtdnipjbknkmhbaaDoor.U
open Go.RowKit
open Go.Lib hiding intOf

set_option maxRecDepth 100000 in
set_option maxHeartbeats 4000000 in
theorem there_mid (s : ByteArray) (unit a : Int) (w : World) (h : s.size ≤ 400) (hok : okB s = true) (hO : off (items s) 0 0 unit = (a, 0)) (hE : ¬ a = s.size) (hT : Tabs w) :
    Calls Tryd.prog 5 #[.string s, .int .i64 unit] w (True' w) := by
  have hz : ¬ (400 : Int) < (s.size : Int) := by omega
  obtain ⟨q, N, hqa, f1, hN, hq, hu0, huN, f2, f3, f4, hend⟩ := facts s unit a h hok hO
  rw [hqa] at hE
  have he : ¬ unit = N := fun e => hE (hend.1 e)
  have cR := right_any s w (by omega) hT
  rw [hok] at cR
  have cA : ∀ W, Below w.heap.size w W → _ := fun W hb => chain hb (alive_any W (tabs_later hT hb))
  have cU : ∀ W, Below w.heap.size w W → _ := fun W hb => chainN hb (units_one s W N (by omega) (tabs_later hT hb) f1)
  have cO : ∀ W, Below w.heap.size w W → _ := fun W hb => chain hb (offset_is s unit q 0 W (by omega) (tabs_later hT hb) f2)
  have cI : ∀ W, Below w.heap.size w W → _ := fun W hb => chain hb (unit_is s q unit 0 W (by omega) (tabs_later hT hb) f3)
  have cC : ∀ W, Below w.heap.size w W → _ := fun W hb => chain hb (cut_is s q (s.extract 0 q) W (by omega) (tabs_later hT hb) f4)
  clear hE hqa hT hok hO f1 f2 f3 f4
  have hqz : (q : Int) ≤ (s.size : Int) := by omega
  have hqs : ¬ (q : Int) = s.size := fun e => he (hend.2 e)
  clear hend
  go_enter Tryd.func5, Tryd.ntmps5
  go_wp2_with (go_at_call 12; refine cR.mono ?_; rintro e w1 ⟨rfl, hb1⟩)
  go_wp2_with (go_at_call 17; refine (cU w1 hb1).mono ?_; rintro e w2 ⟨rfl, hb2⟩)
  go_wp2_with (go_at_call 8; refine (cO w2 hb2).mono ?_; rintro e w3 ⟨rfl, hb3⟩)
  go_wp2_with (go_at_call 10; refine (cI w3 hb3).mono ?_; rintro e w4 ⟨rfl, hb4⟩)
  replace hb4 := hb4.drew
  clear cR cU cO cI hb1 hb2 hb3
  go_region_held3 (fun W => Below w.heap.size w W) (first | assumption) (first | (go_at_call 7; refine (cA _ ?_).mono ?_; assumption; rintro e w5 ⟨rfl, hb5⟩) | (go_at_call 14; refine (cC _ ?_).mono ?_; assumption; rintro e w6 ⟨rfl, hb6⟩))
  go_wp2
  go_ret
  have e1 : (unit == (N : Int)) = false := by simpa using he
  have e2 : ((q : Int) == (s.size : Int)) = false := by simpa using hqs
  exact ⟨ret_bool (by rw [e1, e2]; rfl), by assumption⟩
end Go.Proofs.YtdnipjbknkmhbaaDoor.U
