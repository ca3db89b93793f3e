/- The live question that each statement of layer 1 asks is answered as it is fixed: true, with all memory that was there as it was. -/
import Derived.Test.YtdnipjbknkmhbaaDoorWalks
import Derived.Deep.RegionWith
namespace Go.Proofs.YtdnipjbknkmhbaaDoor.U
open Go.RowKit
open Go.Lib hiding intOf

def tA : ByteArray := ⟨#[97, 215, 144]⟩
def tB : ByteArray := ⟨#[240, 159, 152, 128]⟩
def tC : ByteArray := ⟨#[97, 240, 159, 152, 128, 98]⟩
def tD : ByteArray := ⟨#[230, 150, 135, 120]⟩
def tE : ByteArray := ⟨#[97, 230, 150, 135]⟩
def tF : ByteArray := ⟨#[192, 128]⟩
theorem a1 : unitsL [tA, tB] 0 = (4, 0) := by kernel_rfl
theorem a2 : offB tC 3 = (5, 0) := by kernel_rfl
theorem a3 : offB tC 2 = (0, 12) := by kernel_rfl
theorem a4 : uniB tD 3 = (1, 0) := by kernel_rfl
theorem a5 : cutB tE 3 = ⟨#[97]⟩ := by kernel_rfl
theorem a6 : okB tF = false := by kernel_rfl

theorem c1 (w : World) (hT : Tabs w) : Calls Tryd.prog 17 #[.slice (some ⟨w.heap.size, 0, none⟩) 2 2] (w.alloc (.cells #[.string ⟨#[97, 215, 144]⟩, .string ⟨#[240, 159, 152, 128]⟩] 9)) fun e w' => e = .returned (.tuple #[.int .i64 4, .int .i64 0]) ∧ Below w.heap.size w w' := by
  have hb : Below w.heap.size w (w.alloc (.cells #[.string ⟨#[97, 215, 144]⟩, .string ⟨#[240, 159, 152, 128]⟩] 9)) := (Below.refl _ _).alloc (Nat.le_refl _) _
  refine (units_any w.heap.size 0 2 [tA, tB] _ (by rw [World.size_alloc]; omega) ?_ (by decide) (by decide) (Utf8Tabs_below hT hb)).mono ?_
  · intro i hi
    match i, hi with
    | 0, _ => rw [World.cell?_alloc_at _ _ _ _ rfl]; rfl
    | 1, _ => rw [World.cell?_alloc_at _ _ _ _ rfl]; rfl
  · rintro e w' ⟨he, hb2⟩
    rw [a1] at he
    exact ⟨he, hb.trans (hb2.mono hb.size)⟩
theorem c2 (w : World) (hT : Tabs w) : Calls Tryd.prog 8 #[.string ⟨#[97, 240, 159, 152, 128, 98]⟩, .int .i64 3] w fun e w' => e = .returned (.tuple #[.int .i64 5, .int .i64 0]) ∧ Below w.heap.size w w' :=
  (offset_any tC 3 w (by decide) hT).mono fun e w' ⟨he, hb⟩ => by rw [a2] at he; exact ⟨he, hb⟩
theorem c3 (w : World) (hT : Tabs w) : Calls Tryd.prog 8 #[.string ⟨#[97, 240, 159, 152, 128, 98]⟩, .int .i64 2] w fun e w' => e = .returned (.tuple #[.int .i64 0, .int .i64 12]) ∧ Below w.heap.size w w' :=
  (offset_any tC 2 w (by decide) hT).mono fun e w' ⟨he, hb⟩ => by rw [a3] at he; exact ⟨he, hb⟩
theorem c4 (w : World) (hT : Tabs w) : Calls Tryd.prog 10 #[.string ⟨#[230, 150, 135, 120]⟩, .int .i64 3] w fun e w' => e = .returned (.tuple #[.int .i64 1, .int .i64 0]) ∧ Below w.heap.size w w' :=
  (unit_any tD 3 w (by decide) hT).mono fun e w' ⟨he, hb⟩ => by rw [a4] at he; exact ⟨he, hb⟩
theorem c5 (w : World) (hT : Tabs w) : Calls Tryd.prog 14 #[.string ⟨#[97, 230, 150, 135]⟩, .int .i64 3] w fun e w' => e = .returned (.string ⟨#[97]⟩) ∧ Below w.heap.size w w' :=
  (cut_any tE 3 w (by decide) hT).mono fun e w' ⟨he, hb⟩ => by rw [a5] at he; exact ⟨he, hb⟩
theorem c6 (w : World) (hT : Tabs w) : Calls Tryd.prog 12 #[.string ⟨#[192, 128]⟩] w fun e w' => e = .returned (.bool false) ∧ Below w.heap.size w w' :=
  (right_any tF w (by decide) hT).mono fun e w' ⟨he, hb⟩ => by rw [a6] at he; exact ⟨he, hb⟩

theorem tabs_later {w w' : World} (hT : Tabs w) (hb : Below w.heap.size w w') : Tabs w' := Utf8Tabs_below hT hb

set_option maxHeartbeats 1000000 in
set_option maxRecDepth 100000 in
theorem alive_any (w : World) (hT : Tabs w) : Calls Tryd.prog 7 #[] w fun e w' => e = .returned (.bool true) ∧ Below w.heap.size w w' := by
  have k1 := c1 w hT
  have k2 : ∀ W, Below w.heap.size w W → _ := fun W hb => c2 W (tabs_later hT hb)
  have k3 : ∀ W, Below w.heap.size w W → _ := fun W hb => c3 W (tabs_later hT hb)
  have k4 : ∀ W, Below w.heap.size w W → _ := fun W hb => c4 W (tabs_later hT hb)
  have k5 : ∀ W, Below w.heap.size w W → _ := fun W hb => c5 W (tabs_later hT hb)
  have k6 : ∀ W, Below w.heap.size w W → _ := fun W hb => c6 W (tabs_later hT hb)
  clear hT
  go_enter Tryd.func7, Tryd.ntmps7
  go_wp2_with fail
  refine k1.mono ?_
  rintro e w1 ⟨rfl, hb1⟩
  clear k1
  go_wp2_with fail
  refine (k2 w1 hb1).mono ?_
  rintro e w2 ⟨rfl, hb2⟩
  have hb2 := hb1.trans (hb2.mono hb1.size)
  clear k2 hb1
  go_wp2_with fail
  refine (k3 w2 hb2).mono ?_
  rintro e w3 ⟨rfl, hb3⟩
  have hb3 := hb2.trans (hb3.mono hb2.size)
  clear k3 hb2
  go_wp2_with fail
  refine (k4 w3 hb3).mono ?_
  rintro e w4 ⟨rfl, hb4⟩
  have hb4 := hb3.trans (hb4.mono hb3.size)
  clear k4 hb3
  go_wp2_with fail
  refine (k5 w4 hb4).mono ?_
  rintro e w5 ⟨rfl, hb5⟩
  have hb5 := hb4.trans (hb5.mono hb4.size)
  clear k5 hb4
  go_wp2_with fail
  refine (k6 w5 hb5).mono ?_
  rintro e w6 ⟨rfl, hb6⟩
  have hb6 := hb5.trans (hb6.mono hb5.size)
  clear k6 hb5
  go_wp2
  go_ret
  exact ⟨rfl, hb6⟩
end Go.Proofs.YtdnipjbknkmhbaaDoor.U
