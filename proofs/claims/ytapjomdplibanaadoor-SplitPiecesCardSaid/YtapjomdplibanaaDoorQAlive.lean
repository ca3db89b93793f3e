/- The contract of law 09's alive. -/
import Derived.Test.YtapjomdplibanaaDoorQSame
import Derived.Test.YtapjomdplibanaaDoorQProg
namespace Go.Proofs.YtapjomdplibanaaDoor.Q
open Go.RowKit
open Go.Lib hiding intOf
open Go.Proofs.YtapjomdplibanaaDoor.U Go.Proofs.YtapjomdplibanaaDoor.S Go.Proofs.YtapjomdplibanaaDoor.L

def lit : ByteArray := ⟨#[120, 10, 102, 117, 110, 99, 32, 97, 40, 41, 10, 32, 118, 97, 114, 121, 10, 118, 97, 114, 32, 98, 32, 105, 110, 116]⟩
def litP : List PcP := [⟨0, 2, false, true⟩, ⟨2, 17, true, false⟩, ⟨17, 26, true, false⟩]
theorem lit_pieces : pieces lit.toList = litP := by
  rw [ByteArray.toList_eq]
  kernel_rfl
theorem nil_pieces : pieces (⟨#[]⟩ : ByteArray).toList = [⟨0, 0, false, false⟩] := by
  rw [ByteArray.toList_eq]
  kernel_rfl
theorem lit_cells {W : World} {g off : Nat} (h : PcsAt W g off litP) :
    W.cell? ⟨g, off + 3, none⟩ = some (.bool true) ∧ W.cell? ⟨g, off + 4, none⟩ = some (.int .i64 2) ∧ W.cell? ⟨g, off + 6, none⟩ = some (.bool true) ∧ W.cell? ⟨g, off + 8, none⟩ = some (.int .i64 17) :=
  ⟨h 3 _ rfl, h 4 _ rfl, h 6 _ rfl, h 8 _ rfl⟩
set_option maxHeartbeats 8000000 in
set_option maxRecDepth 20000 in
theorem alive_any (w : World) (hT : Tabs w) : Calls Tryd.prog 7 #[] w fun e w' => e = .returned (.bool true) ∧ Below w.heap.size w w' := by
  go_enter Tryd.func7, Tryd.ntmps7
  go_wp2_with fail
  refine (pieces_any lit w (by decide) hT).mono ?_
  rintro e w1 ⟨v, rfl, hv, hb1⟩
  rw [lit_pieces] at hv
  have c2 := touched_any _ litP v 15 20 w1 hv (by decide)
  rw [show touchL litP 15 20 = (0, 3) by decide] at c2
  have c4 := fun X (hX : Below w1.heap.size w1 X) => of_any _ litP v 26 X (hv.later hX) (by decide)
  rw [show ofL litP 26 = 2 by decide] at c4
  have HC4 := Lib.hid c4
  have HT1 := Lib.hid (hT.later hb1)
  have HB1 := Lib.hid hb1
  have HV := Lib.hid hv
  obtain ⟨a, cap, rfl, _, hc⟩ := hv
  obtain ⟨g, off, rfl, _, hgw, hat⟩ := hc.resolve_left (by simp [litP])
  have hlen : litP.length = 3 := rfl
  rw [hlen] at c2 HC4 HV ⊢
  have HAT := Lib.hid hat
  clear hc hat hlen c4 hb1
  go_wp2_with fail
  refine c2.mono ?_
  rintro e w2 ⟨rfl, hb2⟩
  have HB2 := Lib.hid hb2
  have c3 := pieces_any ⟨#[]⟩ w2 (by decide) (HT1.out.later hb2)
  rw [nil_pieces] at c3
  clear c2 hb2
  go_wp2_with fail
  refine c3.mono ?_
  rintro e w3 ⟨v3, rfl, hv3, hb3⟩
  obtain ⟨a3, cap3, rfl, _, hc3⟩ := hv3
  obtain ⟨g3, off3, rfl, _, hgw3, hat3⟩ := hc3.resolve_left (by simp)
  have hb13 := HB2.out.trans (hb3.mono HB2.out.size)
  have c4 := HC4.out w3 hb13
  have HAT3 := Lib.hid hat3
  have HB13 := Lib.hid hb13
  obtain ⟨q0, q1, q2, q3⟩ := lit_cells (fun j u hj => (hb13.cell (p := ⟨g, off + j, none⟩) hgw).trans (HAT.out j u hj))
  have hlen3 : ([⟨0, 0, false, false⟩] : List PcP).length = 1 := rfl
  rw [hlen3]
  clear c3 hc3 hat3 hb13 hb3 hlen3
  go_wp2_with fail
  refine c4.mono ?_
  rintro e w4 ⟨rfl, hb4⟩
  have r2 : w4.cell? ⟨g3, off3 + 2, none⟩ = some (.bool false) := (hb4.cell (p := ⟨g3, off3 + 2, none⟩) hgw3).trans (HAT3.out 2 _ rfl)
  have r3 : w4.cell? ⟨g3, off3 + 3, none⟩ = some (.bool false) := (hb4.cell (p := ⟨g3, off3 + 3, none⟩) hgw3).trans (HAT3.out 3 _ rfl)
  have HB := Lib.hid (HB1.out.trans ((HB13.out.trans (hb4.mono HB13.out.size)).mono HB1.out.size))
  clear c4 hb4 q0 q1 q2 q3
  go_wp2_with fail
  go_ret
  exact ⟨rfl, HB.out⟩
end Go.Proofs.YtapjomdplibanaaDoor.Q
