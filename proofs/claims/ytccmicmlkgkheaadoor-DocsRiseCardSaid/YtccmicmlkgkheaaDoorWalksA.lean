/- Contracts of package utf's Right, width and Offset, at a seat without Unit, Cut, Units. -/
import Derived.Test.YtccmicmlkgkheaaDoorProg
import Derived.Test.YtccmicmlkgkheaaDoorPlain
import Derived.Test.YtccmicmlkgkheaaDoorLays
import Derived.WalkKit
import Derived.WalkMore
import Derived.WalkSmall
import Derived.Below
import Derived.Lib.Hide
import Derived.Lib.OthersKept
import Derived.Deep.LoopGhost
import Derived.Deep.DeepMust
import Derived.Shelf.Unicode.DecodeSlow
namespace Go.Proofs.YtccmicmlkgkheaaDoor.U
open Go.RowKit
open Go.Lib hiding intOf

def Tabs (w : World) : Prop := Lib.Utf8Tabs 0 1 w

/-- utf.Right. -/
theorem right_any (s : ByteArray) (w : World) (hs : s.size ≤ 1099511627776) (hT : Tabs w) :
    Calls Tryd.prog 39 #[.string s] w fun e w' => e = .returned (.bool (okB s)) ∧ Below w.heap.size w w' := by
  have cV : Calls Tryd.prog 46 #[.string s] w (fun e w' => e = .returned (.bool (Lib.validD s.data.toList)) ∧ Below w.heap.size w w') := Any.utf8_ValidString lays s w (by omega) hT
  rw [valid_ok s] at cV
  generalize okB s = V at cV ⊢
  go_enter Tryd.func39, Tryd.ntmps39
  go_wp2_with (go_at_call 46; refine cV.mono ?_; rintro e w' ⟨rfl, hb⟩)
  go_ret
  exact ⟨rfl, hb⟩

/-- utf.width. -/
theorem width_any (r : Nat) (w : World) (hr : r ≤ 1114111) :
    Calls Tryd.prog 76 #[.int .i32 r] w fun e w' => e = .returned (.int .i64 (uw r)) ∧ w = w' := by
  by_cases h : 65536 ≤ r
  · have hz : ((65536 : Int) ≤ (r : Int)) := by omega
    have e : uw r = 2 := by unfold uw; rw [if_pos h]
    rw [e]
    go_enter Tryd.func76, Tryd.ntmps76
    go_wp2
    go_ret
    exact ⟨rfl, rfl⟩
  · have hz : ¬ ((65536 : Int) ≤ (r : Int)) := by omega
    have e : uw r = 1 := by unfold uw; rw [if_neg h]
    rw [e]
    go_enter Tryd.func76, Tryd.ntmps76
    go_wp2
    go_ret
    exact ⟨rfl, rfl⟩

def AnswersTwo (p : Int × Int) (w : World) (e : Ending) (w' : World) : Prop := e = .returned (.tuple #[.int .i64 p.1, .int .i64 p.2]) ∧ Below w.heap.size w w'
theorem below_iter {w w1 : World} (hb : Below w.heap.size w w1) (s : ByteArray) (pos : Nat) : Below w.heap.size w (w1.iter s pos) := hb.alloc hb.size _
theorem answersTwo {p : Int × Int} {a b : Int} {w w' : World} (h : p = (a, b)) (hb : Below w.heap.size w w') : AnswersTwo p w (.returned (.tuple #[.int .i64 a, .int .i64 b])) w' := ⟨by rw [h], hb⟩

set_option maxHeartbeats 1000000 in
set_option maxRecDepth 100000 in
theorem offset_any (s : ByteArray) (unit : Int) (w : World) (hs : s.size ≤ 1099511627776) (hT : Tabs w) :
    Calls Tryd.prog 64 #[.string s, .int .i64 unit] w (AnswersTwo (offB s unit) w) := by
  have cR := right_any s w hs hT
  unfold offB
  by_cases hok : okB s = true
  · rw [if_pos hok]
    rw [hok] at cR
    obtain ⟨R, hR⟩ : ∃ R, off (items s) 0 0 unit = R := ⟨_, rfl⟩
    rw [hR]
    have HR := Lib.hid hR; clear hR hok
    go_enter Tryd.func64, Tryd.ntmps64
    go_wp2_with (go_at_call 39; refine cR.mono ?_; rintro e w1 ⟨rfl, hb⟩)
    clear cR
    go_loopw [6] (fun a w' => ∃ (pos f ahead : Nat), w' = w1.iter s pos ∧ a = .int .i64 ahead ∧ Hid (off (itemsF s f pos) pos ahead unit = R) ∧ pos ≤ s.size ∧ s.size - pos ≤ f ∧ ahead ≤ 2 * pos) (fun _ w' => s.size - w'.iterPos w1.heap.size)
    case atStart => exact ⟨0, s.size, 0, rfl, rfl, HR, by omega, by omega, by omega⟩
    case round =>
      obtain ⟨pos, f, ahead, rfl, rfl, HO, hp, hf, ha⟩ := hrel
      by_cases hlt : pos < s.size
      · obtain ⟨f, rfl⟩ : ∃ k, f = k + 1 := ⟨f - 1, by omega⟩
        have hnx : ∀ ty, (Instr.next (.pointer (some ⟨w1.heap.size, 0, none⟩)) true ty).run Tryd.prog (w1.iter s pos) = _ := fun ty => run_next_any w1 s pos ty hlt
        by_cases hu : (ahead : Int) = unit
        · go_wp2
          go_ret2
          exact answersTwo (HO.out ▸ off_hit _ pos ahead unit hu) (below_iter hb s _)
        · have hw1 := width_pos s pos hlt
          have hw2 := width_le s pos hlt
          have hu2 := uw_le (Utf8.decode s pos).1
          go_wp2_with (go_at_call 76; refine (width_any _ _ (rune_le s pos)).mono ?_; rintro e w2 ⟨rfl, rfl⟩)
          go_roundw
          case rel => exact ⟨pos + (Utf8.decode s pos).2, f, ahead + uw (Utf8.decode s pos).1, rfl, by go_num, Lib.hid ((off_miss s f pos ahead unit hlt hu).symm.trans HO.out), by omega, by omega, by omega⟩
          case measure => simp; omega
      · have hnx : ∀ ty, (Instr.next (.pointer (some ⟨w1.heap.size, 0, none⟩)) true ty).run Tryd.prog (w1.iter s pos) = _ := fun ty => run_next_end w1 s pos ty hlt
        by_cases hu : (ahead : Int) = unit
        · go_wp2
          go_ret2
          obtain rfl : pos = s.size := by omega
          exact answersTwo (HO.out ▸ off_hit _ _ ahead unit hu) (below_iter hb s _)
        · go_wp2
          go_ret2
          exact answersTwo (HO.out ▸ off_done s f pos ahead unit hlt hu) (below_iter hb s _)
  · have hf : okB s = false := by simpa using hok
    rw [if_neg hok]
    rw [hf] at cR
    clear hok hf
    go_enter Tryd.func64, Tryd.ntmps64
    go_wp2_with (go_at_call 39; refine cR.mono ?_; rintro e w1 ⟨rfl, hb⟩)
    go_ret2
    exact answersTwo rfl hb

end Go.Proofs.YtccmicmlkgkheaaDoor.U
