/- The contract of alive. -/
import Derived.Test.YtfjdeacpdcnjpaaGreatDoorVCopies
import Derived.Test.YtfjdeacpdcnjpaaGreatDoorVWriteTop
namespace Go.Proofs.YtfjdeacpdcnjpaaGreatDoor.V
open Go.RowKit
open Go.Lib

def vA : Val := .mk 5 false 0 [] [.mk 4 false 0 [] [.mk 2 false 1 [] [] [], .mk 2 false (-20) [] [] [], .mk 0 false 0 [] [] []] [], .mk 3 false 0 [10] [] []] [[97, 195, 169, 240, 159, 152, 128], []]
def tA : ByteArray := ⟨#[32, 123, 32, 34, 97, 92, 117, 48, 48, 101, 57, 92, 117, 100, 56, 51, 100, 92, 117, 100, 101, 48, 48, 34, 32, 58, 32, 91, 32, 49, 32, 44, 32, 45, 50, 48, 32, 44, 32, 110, 117, 108, 108, 32, 93, 32, 44, 32, 34, 34, 32, 58, 32, 34, 92, 110, 34, 32, 125, 32]⟩
def oA : List UInt8 := [123, 34, 97, 195, 169, 240, 159, 152, 128, 34, 58, 91, 49, 44, 45, 50, 48, 44, 110, 117, 108, 108, 93, 44, 34, 34, 58, 34, 92, 117, 48, 48, 48, 97, 34, 125]
theorem readA : readB tA = .ok vA := by kernel_rfl
theorem readA2 : readB ⟨#[91, 48, 49, 93]⟩ = .error 21 := by kernel_rfl
theorem rightA : rightTop vA = true := by kernel_rfl
theorem writeA : write vA = oA := by kernel_rfl
theorem wtA : wt vA ≤ 1099511627776 := by decide +kernel

set_option maxHeartbeats 2000000 in
theorem alive_any (w : World) (hE : EnvW w) :
    Calls Tryz.prog 5 #[] w fun e w' => e = .returned (.bool true) ∧ Below w.heap.size w w' := by
  have cR := fun W (hb : Below w.heap.size w W) => read_any tA W (by decide) (hE.later hb)
  have cR2 := fun W (hb : Below w.heap.size w W) => read_any ⟨#[91, 48, 49, 93]⟩ W (by decide) (hE.later hb)
  simp only [readA, readA2] at cR cR2
  have HE := Lib.hid hE
  replace cR := cR w (Below.refl _ _)
  have HR2 := Lib.hid cR2
  clear cR2
  go_enter Tryz.func5, Tryz.ntmps5
  go_wp2_with fail
  refine cR.mono ?_
  rintro e w1 ⟨hb1, lv, kv, rfl, hv1⟩
  have HV1 := Lib.hid hv1
  have hv2 := hv1
  obtain ⟨⟨a1, c1, rfl, _⟩, ⟨a2, c2, rfl, _⟩⟩ := hv2
  have hV : ∀ {W : World}, Below w1.heap.size w1 W → ValIn W (fun g => w.heap.size ≤ g) vA (.slice a1 2 c1) (.slice a2 2 c2) := fun hb => hv1.later (fun b _ hlt => hb.block b hlt) (fun _ h => h) _ _ _
  have hE1 := hE.later hb1
  have cW : ∀ W, Below w1.heap.size w1 W → Calls Tryz.prog 6 #[(.agg #[.int .i64 5, .bool false, .int .i64 0, .string ⟨#[]⟩, .slice a1 2 c1, .slice a2 2 c2])] W fun e w' => e = .returned (.tuple #[.string ⟨#[123, 34, 97, 195, 169, 240, 159, 152, 128, 34, 58, 91, 49, 44, 45, 50, 48, 44, 110, 117, 108, 108, 93, 44, 34, 34, 58, 34, 92, 117, 48, 48, 48, 97, 34, 125]⟩, .int .i64 0]) ∧ Below W.heap.size W w' := fun W hb => by
    have h := write_top _ _ _ _ _ _ _ _ _ W (hV hb) wtA (by rw [show Val.mk 5 false 0 [] _ _ = vA from rfl, writeA]; decide) (hE1.later hb)
    refine h.mono ?_
    rintro e w' ⟨h1, h2⟩
    rw [show Val.mk 5 false 0 [] _ _ = vA from rfl, rightA, writeA, if_pos rfl] at h2
    exact ⟨h2, h1⟩
  have cG : ∀ W po, Below w1.heap.size w1 W → W.cell? ⟨po, 0, none⟩ = some (.string ⟨#[]⟩) → Calls Tryz.prog 9 #[(.agg #[.int .i64 5, .bool false, .int .i64 0, .string ⟨#[]⟩, .slice a1 2 c1, .slice a2 2 c2]), .slice (some ⟨po, 0, none⟩) 1 1] W fun e w' => (∃ a3 c3 a4 c4, e = .returned (.tuple #[.agg #[.int .i64 3, .bool false, .int .i64 0, .string ⟨#[10]⟩, .slice a3 0 c3, .slice a4 0 c4], .bool true])) ∧ Below W.heap.size W w' := fun W po hb hc => by
    have h := get_one _ _ _ _ _ _ _ _ W (hV hb) wtA rfl [] 1 (by decide) (by decide +kernel) po 0 1 hc 3 false 0 [10] [] rfl (by decide)
    refine h.mono ?_
    rintro e w' ⟨lv', kv', h1, ⟨⟨a3, c3, rfl, _⟩, ⟨a4, c4, rfl, _⟩⟩, h2⟩
    exact ⟨⟨a3, c3, a4, c4, h1⟩, h2⟩
  have HW := Lib.hid cW
  have HG := Lib.hid cG
  have HB1 := Lib.hid hb1
  clear cR hv1 hV HV1 cW cG hE1 HE
  simp only [six, strCell]
  go_wp2_with fail
  refine (HW.out _ ((Below.refl _ _).alloc (Nat.le_refl _) _)).mono ?_
  rintro e w2 ⟨rfl, hb2⟩
  have hblk2 := (hb2.block w1.heap.size (by simp)).trans (heap_alloc_new w1 _)
  have hb12 := ((Below.refl w1.heap.size w1).alloc (Nat.le_refl _) _).trans (hb2.mono (by simp))
  have cQ := HR2.out w2 (HB1.out.trans (hb12.mono HB1.out.size))
  have hz2 := hb2.size
  clear hb2 HW HR2
  go_wp2_with fail
  refine cQ.mono ?_
  rintro e w3 ⟨hb3, rfl⟩
  have hz3 := hb3.size
  simp at hz2
  have hblk3 := (hb3.block w1.heap.size (by omega)).trans hblk2
  have hb13 := hb12.trans (hb3.mono (by omega))
  obtain ⟨⟨k0, k1, k2, k3, k4, k5⟩, kf⟩ := cells_six ((Below.heap_alloc w3 (.cells #[.int .i64 0, .bool false, .int .i64 0, .string ⟨#[]⟩, .slice none 0 0, .slice none 0 0] 34) w1.heap.size (by omega)).trans hblk3)
  clear cQ hb3 hblk2 hb12
  simp only [six, strCell]
  go_wp2_with fail
  obtain ⟨t1', t2', tb, tz⟩ := two w3 (.cells #[.int .i64 0, .bool false, .int .i64 0, .string ⟨#[]⟩, .slice none 0 0, .slice none 0 0] 34) (.cells #[.string ⟨#[]⟩] 9)
  refine (HG.out _ (w3.heap.size + 1) (hb13.trans (tb.mono (by omega))) (by unfold World.cell?; rw [t2']; rfl)).mono ?_
  rintro e w4 ⟨⟨a3, c3, a4, c4, rfl⟩, hb4⟩
  obtain ⟨⟨j0, j1, j2, j3, j4, j5⟩, jf⟩ := cells_six ((hb4.block w3.heap.size (by omega)).trans t1')
  have HB4 := Lib.hid (HB1.out.trans ((hb13.trans ((tb.trans (hb4.mono (by omega))).mono (by omega))).mono HB1.out.size))
  clear HG hb4 hb13 t1' t2' tb k0 k1 k2 k3 k4 k5 kf
  go_wp2_with fail
  go_ret
  refine ⟨rfl, ?_⟩
  exact HB4.out.alloc HB4.out.size _
end Go.Proofs.YtfjdeacpdcnjpaaGreatDoor.V
