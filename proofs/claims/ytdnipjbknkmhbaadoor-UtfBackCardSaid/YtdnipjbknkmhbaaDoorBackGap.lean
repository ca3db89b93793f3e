/- The walk of 'there and back' for a unit that has no place in a right text. -/
import Derived.Test.YtdnipjbknkmhbaaDoorBackBase
namespace Go.Proofs.YtdnipjbknkmhbaaDoor.U
open Go.RowKit
open Go.Lib hiding intOf

set_option maxRecDepth 100000 in
set_option maxHeartbeats 4000000 in
theorem back_gap (s : ByteArray) (unit : Int) (w : World) (h : s.size ≤ 400) (hok : okB s = true) (hO : off (items s) 0 0 unit = (0, 12)) (hT : Tabs w) :
    Calls Tryd.prog 5 #[.string s, .int .i64 unit] w (True' w) := by
  have hz : ¬ (400 : Int) < (s.size : Int) := by omega
  have hsU := sumU_items s
  have f1 : unitsL [s] 0 = (((sumU (items s) : Nat) : Int), 0) := by simp only [unitsL]; rw [if_pos hok]; simp
  have f2 : offB s unit = (0, 12) := by unfold offB; rw [if_pos hok, hO]
  have hgap := off_gap (items s) 0 0 unit
  obtain ⟨N, hN⟩ : ∃ N, sumU (items s) = N := ⟨_, rfl⟩
  rw [hN] at f1 hsU hgap
  have cR := right_any s w (by omega) hT
  rw [hok] at cR
  have cA : ∀ W, Below w.heap.size w W → _ := fun W hb => chain hb (alive_any W (tabs_later hT hb))
  have cU : ∀ W, Below w.heap.size w W → _ := fun W hb => chainN hb (units_one s W N (by omega) (tabs_later hT hb) f1)
  have cO : ∀ W, Below w.heap.size w W → _ := fun W hb => chain hb (offset_is s unit 0 12 W (by omega) (tabs_later hT hb) f2)
  by_cases hlow : unit < 0
  · have cP : ∀ W, Below w.heap.size w W → ∀ u : Int, _ := fun W hb u => chainN hb (offset_any s u W (by omega) (tabs_later hT hb))
    clear hT hok hO f1 f2 hgap hN hsU
    go_enter Tryd.func5, Tryd.ntmps5
    go_wp2_with (go_at_call 12; ((with_reducible refine cR.mono ?_); rintro e w1 ⟨rfl, hb1⟩))
    go_wp2_with (go_at_call 17; ((with_reducible refine (cU w1 hb1).mono ?_); rintro e w2 ⟨rfl, hb2⟩))
    go_wp2_with fail
    refine (cO w2 hb2).mono ?_
    rintro e w3 ⟨rfl, hb3⟩
    go_wp2_with fail
    refine (cP w3 hb3 _).mono ?_
    rintro e w4 ⟨rfl, hb4⟩
    go_wp2_with fail
    refine (cA w4 hb4).mono ?_
    rintro e w5 ⟨rfl, hb5⟩
    go_wp2
    go_ret
    exact ⟨rfl, hb5⟩
  by_cases hhigh : (N : Int) < unit
  · have cP : ∀ W, Below w.heap.size w W → ∀ u : Int, _ := fun W hb u => chainN hb (offset_any s u W (by omega) (tabs_later hT hb))
    clear hT hok hO f1 f2 hgap hN
    go_enter Tryd.func5, Tryd.ntmps5
    go_wp2_with (go_at_call 12; ((with_reducible refine cR.mono ?_); rintro e w1 ⟨rfl, hb1⟩))
    go_wp2_with (go_at_call 17; ((with_reducible refine (cU w1 hb1).mono ?_); rintro e w2 ⟨rfl, hb2⟩))
    go_wp2_with fail
    refine (cO w2 hb2).mono ?_
    rintro e w3 ⟨rfl, hb3⟩
    go_wp2_with fail
    refine (cP w3 hb3 _).mono ?_
    rintro e w4 ⟨rfl, hb4⟩
    go_wp2_with fail
    refine (cA w4 hb4).mono ?_
    rintro e w5 ⟨rfl, hb5⟩
    go_wp2
    go_ret
    exact ⟨rfl, hb5⟩
  obtain ⟨a, ha⟩ := hgap (by omega) (by omega) hO
  have f3 : offB s (unit - 1) = (a, 0) := by unfold offB; rw [if_pos hok, ha]
  have cP : ∀ W, Below w.heap.size w W → _ := fun W hb => chain hb (offset_is s (unit - 1) a 0 W (by omega) (tabs_later hT hb) f3)
  clear hT hok hO f1 f2 f3 hgap hN ha
  go_enter Tryd.func5, Tryd.ntmps5
  go_wp2_with (go_at_call 12; ((with_reducible refine cR.mono ?_); rintro e w1 ⟨rfl, hb1⟩))
  go_wp2_with (go_at_call 17; ((with_reducible refine (cU w1 hb1).mono ?_); rintro e w2 ⟨rfl, hb2⟩))
  go_wp2_with fail
  refine (cO w2 hb2).mono ?_
  rintro e w3 ⟨rfl, hb3⟩
  go_wp2_with fail
  refine (cP w3 hb3).mono ?_
  rintro e w4 ⟨rfl, hb4⟩
  go_wp2_with fail
  refine (cA w4 hb4).mono ?_
  rintro e w5 ⟨rfl, hb5⟩
  go_wp2
  go_ret
  exact ⟨rfl, hb5⟩
end Go.Proofs.YtdnipjbknkmhbaaDoor.U
