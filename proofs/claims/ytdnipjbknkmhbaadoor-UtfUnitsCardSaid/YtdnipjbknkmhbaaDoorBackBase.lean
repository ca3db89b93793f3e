/- Contracts of layer 1's calls with what they answer written out, and the plain facts under the statement 'there and back'; its ways for long and for wrong texts. -/
import Derived.Test.YtdnipjbknkmhbaaDoorAlive
import Derived.Deep.RegionHeld3
import Derived.BigRegion
import Derived.ChangeAlike
namespace Go.Proofs.YtdnipjbknkmhbaaDoor.U
open Go.RowKit
open Go.Lib hiding intOf

def True' (w : World) (e : Ending) (w' : World) : Prop := e = .returned (.bool true) ∧ Below w.heap.size w w'

theorem ret_bool {a b : Bool} (h : a = b) : Ending.returned (.bool a) = .returned (.bool b) := by rw [h]
theorem chain {w W : World} {f : FuncId} {args : Array Value} {v : Ending} (hb : Below w.heap.size w W) (c : Calls Tryd.prog f args W fun e w' => e = v ∧ Below W.heap.size W w') :
    Calls Tryd.prog f args W fun e w' => e = v ∧ Below w.heap.size w w' := c.mono fun _ _ ⟨h1, h2⟩ => ⟨h1, hb.trans (h2.mono hb.size)⟩

theorem chainN {w W W' : World} {f : FuncId} {args : Array Value} {v : Ending} (hb : Below w.heap.size w W) (c : Calls Tryd.prog f args W' fun e w' => e = v ∧ Below W.heap.size W w') :
    Calls Tryd.prog f args W' fun e w' => e = v ∧ Below w.heap.size w w' := c.mono fun _ _ ⟨h1, h2⟩ => ⟨h1, hb.trans (h2.mono hb.size)⟩

theorem units_one (s : ByteArray) (w : World) (n : Int) (hs : s.size ≤ 1099511627776) (hT : Tabs w) (hn : unitsL [s] 0 = (n, 0)) :
    Calls Tryd.prog 17 #[.slice (some ⟨w.heap.size, 0, none⟩) 1 1] (w.alloc (.cells #[.string s] 9)) fun e w' => e = .returned (.tuple #[.int .i64 n, .int .i64 0]) ∧ Below w.heap.size w w' := by
  have hb : Below w.heap.size w (w.alloc (.cells #[.string s] 9)) := (Below.refl _ _).alloc (Nat.le_refl _) _
  refine (units_any w.heap.size 0 1 [s] _ (by rw [World.size_alloc]; omega) ?_ (by simp) (by simp only [bytes]; omega) (tabs_later hT hb)).mono ?_
  · intro i hi
    match i, hi with
    | 0, _ => rw [World.cell?_alloc_at _ _ _ _ rfl]; rfl
  · rintro e w' ⟨he, hb2⟩
    rw [hn] at he
    exact ⟨he, hb.trans (hb2.mono hb.size)⟩
theorem offset_is (s : ByteArray) (unit a c : Int) (w : World) (hs : s.size ≤ 1099511627776) (hT : Tabs w) (h : offB s unit = (a, c)) :
    Calls Tryd.prog 8 #[.string s, .int .i64 unit] w fun e w' => e = .returned (.tuple #[.int .i64 a, .int .i64 c]) ∧ Below w.heap.size w w' :=
  (offset_any s unit w hs hT).mono fun e w' ⟨he, hb⟩ => by rw [h] at he; exact ⟨he, hb⟩
theorem unit_is (s : ByteArray) (at' a c : Int) (w : World) (hs : s.size ≤ 1099511627776) (hT : Tabs w) (h : uniB s at' = (a, c)) :
    Calls Tryd.prog 10 #[.string s, .int .i64 at'] w fun e w' => e = .returned (.tuple #[.int .i64 a, .int .i64 c]) ∧ Below w.heap.size w w' :=
  (unit_any s at' w hs hT).mono fun e w' ⟨he, hb⟩ => by rw [h] at he; exact ⟨he, hb⟩
theorem cut_is (s : ByteArray) (most : Int) (t : ByteArray) (w : World) (hs : s.size ≤ 1099511627776) (hT : Tabs w) (h : cutB s most = t) :
    Calls Tryd.prog 14 #[.string s, .int .i64 most] w fun e w' => e = .returned (.string t) ∧ Below w.heap.size w w' :=
  (cut_any s most w hs hT).mono fun e w' ⟨he, hb⟩ => by rw [h] at he; exact ⟨he, hb⟩

set_option maxRecDepth 100000 in
theorem back_long (s : ByteArray) (unit : Int) (w : World) (h : 400 < s.size) (hT : Tabs w) :
    Calls Tryd.prog 5 #[.string s, .int .i64 unit] w (True' w) := by
  have cA := alive_any w hT
  have hz : (400 : Int) < (s.size : Int) := by omega
  clear hT
  go_enter Tryd.func5, Tryd.ntmps5
  go_wp2_with (go_at_call 7; refine cA.mono ?_; rintro e w1 ⟨rfl, hb⟩)
  go_ret
  exact ⟨rfl, hb⟩
set_option maxRecDepth 100000 in
theorem back_wrong (s : ByteArray) (unit : Int) (w : World) (h : s.size ≤ 400) (hok : okB s = false) (hT : Tabs w) :
    Calls Tryd.prog 5 #[.string s, .int .i64 unit] w (True' w) := by
  have hz : ¬ (400 : Int) < (s.size : Int) := by omega
  have cR := right_any s w (by omega) hT
  rw [hok] at cR
  have cA : ∀ W, Below w.heap.size w W → _ := fun W hb => alive_any W (tabs_later hT hb)
  clear hT hok
  go_enter Tryd.func5, Tryd.ntmps5
  go_wp2_with (go_at_call 12; refine cR.mono ?_; rintro e w1 ⟨rfl, hb⟩)
  go_wp2_with (go_at_call 7; refine (cA w1 hb).mono ?_; rintro e w2 ⟨rfl, hb2⟩)
  go_ret
  exact ⟨rfl, hb.trans (hb2.mono hb.size)⟩
theorem facts (s : ByteArray) (unit : Int) (p : Int) (h : s.size ≤ 400) (hok : okB s = true) (hO : off (items s) 0 0 unit = (p, 0)) :
    ∃ (q N : Nat), p = q ∧ unitsL [s] 0 = ((N : Int), 0) ∧ N ≤ 800 ∧ q ≤ s.size ∧ 0 ≤ unit ∧ unit ≤ N ∧ offB s unit = ((q : Int), 0) ∧ uniB s q = (unit, 0) ∧ cutB s q = s.extract 0 q ∧ (unit = N ↔ (q : Int) = s.size) := by
  have hw : Wide (items s) := itemsF_wide s _ _
  have hsW := sumW_items s
  have hsU := sumU_items s
  obtain ⟨h1, h2, h3, h4, h5, h6⟩ := off_there (items s) 0 0 unit p hw hO
  rw [hsW] at h2 h6
  refine ⟨p.toNat, sumU (items s), by omega, ?_, by omega, by omega, by omega, by omega, ?_, ?_, ?_, ?_⟩
  · simp only [unitsL]; rw [if_pos hok]; simp
  · unfold offB; rw [if_pos hok, hO]; congr 1; omega
  · unfold uniB; rw [if_pos hok]; rw [show ((p.toNat : Nat) : Int) = p by omega]; exact h5
  · unfold cutB; rw [if_pos hok]
    by_cases hlt : (s.size : Int) ≤ ((p.toNat : Nat) : Int)
    · rw [if_pos hlt, show p.toNat = s.size by omega]; simp
    · rw [if_neg hlt]
      have := off_cut (items s) 0 0 0 unit p hw hO (by rw [hsW]; omega)
      rw [show ((p.toNat : Nat) : Int) = p by omega]
      congr 1; omega
  · constructor
    · intro he; have := h6.1 (by omega); omega
    · intro he; have := h6.2 (by omega); omega
end Go.Proofs.YtdnipjbknkmhbaaDoor.U
