/- The live question that each statement of layer 7 asks is answered as it is fixed. -/
import Derived.Test.YtccmicmlkgkheaaDoorDTwo
namespace Go.Proofs.YtccmicmlkgkheaaDoor.D
open Go.RowKit
open Go.Lib hiding intOf
open Go.Proofs.YtccmicmlkgkheaaDoor.U Go.Proofs.YtccmicmlkgkheaaDoor.L Go.Proofs.YtccmicmlkgkheaaDoor.E

/-- Edits that lie in a block of their own. -/
theorem eds_cells {W : World} {l : List EdP} {q cap : Nat} {xs : Array Value} {t : TypeId} (h : W.heap[q]? = some (.cells xs t (0, 0))) (hx : xs.toList = edCs l) : EdsIn W l (.slice (some ⟨q, 0, none⟩) l.length cap) := by
  refine ⟨_, cap, rfl, .inr ⟨q, 0, rfl, (Array.getElem?_eq_some_iff.1 h).1, fun j u hj => ?_⟩⟩
  rw [← hx, Array.getElem?_toList] at hj
  unfold World.cell?
  rw [h]
  simpa using hj
def nb : ByteArray := ⟨#[98]⟩
def d1 : DocP := ⟨nb, 3, ⟨#[120, 121]⟩⟩
def d2 : DocP := ⟨nb, 4, ⟨#[97, 120, 121]⟩⟩
def d3 : DocP := ⟨nb, 0, ⟨#[]⟩⟩
def ea : EdP := ⟨0, 0, 0, 0, ⟨#[97]⟩⟩
theorem al_1 : openL [] d1 = ([d1], 0) := by kernel_rfl
theorem al_2 : changeL [d1] nb 4 [ea] = ([d2], 0) := by kernel_rfl
theorem al_3 : wholeL [d2] nb 4 ⟨#[]⟩ = ([d2], 71) := by kernel_rfl
theorem al_4 : openL [d2] d3 = ([d2], 74) := by kernel_rfl
theorem al_5 : sizeL [d2] = 3 := by kernel_rfl
theorem inv_one {d : DocP} (h1 : nameOk d.n = true) (h2 : okB d.t = true) (h3 : d.t.size ≤ 16384) : Inv [d] :=
  ⟨by simp, by simp, fun x hx => by rw [List.mem_singleton.1 hx]; exact ⟨h1, h2, h3⟩⟩
theorem inv_d1 : Inv [d1] := inv_one (by kernel_rfl) (by kernel_rfl) (by decide)
theorem inv_d2 : Inv [d2] := inv_one (by kernel_rfl) (by kernel_rfl) (by decide)

set_option maxHeartbeats 8000000 in
set_option maxRecDepth 100000 in
theorem alive_any (w : World) (hT : Tabs w) : Calls Tryd.prog 15 #[] w (True' w) := by
  have cN := snew_any w
  have HT := Lib.hid hT
  clear hT
  go_enter Tryd.func15, Tryd.ntmps15
  go_wp2_with fail
  refine cN.mono ?_
  rintro e w1 ⟨rfl, hP, hb1⟩
  obtain ⟨p, hp⟩ : ∃ p, w.heap.size = p := ⟨_, rfl⟩
  have hO1 : One p w [] w1 := by
    refine ⟨none, by rw [← hp]; exact hP, fun k hk => ?_, hb1⟩
    rcases hk with e | e
    · omega
    · cases e
  rw [hp]
  have HP := Lib.hid hp
  have hwz1 : p ≤ w1.heap.size := by rw [← hp]; exact hb1.size
  have c1 := one_prog hO1 (fun y h => popen_any p y [] d1 w1 h inv_nil (by decide) (by decide) (hO1.tabs HT.out))
  rw [al_1] at c1
  unfold d1 nb at c1
  try simp only at c1
  clear cN hP hb1 hO1 hp
  go_wp2_with fail
  refine c1.mono ?_
  rintro e w2 ⟨rfl, hO2, _, hz2⟩
  obtain ⟨W3, hW3⟩ : ∃ W, w2.alloc (.cells #[.int .i64 0, .int .i64 0, .int .i64 0, .int .i64 0, .string ⟨#[97]⟩] 56) = W := ⟨_, rfl⟩
  have hb3 : Below w2.heap.size w2 W3 := by rw [← hW3]; exact (Below.refl _ _).alloc (Nat.le_refl _) _
  have hx3 : W3.heap[w2.heap.size]? = some (.cells #[.int .i64 0, .int .i64 0, .int .i64 0, .int .i64 0, .string ⟨#[97]⟩] 56 (0, 0)) := by rw [← hW3]; exact heap_alloc_new _ _
  have hO3 : One p w [d1] W3 := hO2.later hb3
  have c2 := one_prog hO3 (fun y h => pchange_any p y [d1] nb 4 [ea] (.slice (some ⟨w2.heap.size, 0, none⟩) 1 1) W3 h inv_d1 (by decide) (eds_cells (l := [ea]) hx3 rfl) (by decide) (by decide) (hO3.tabs HT.out))
  rw [al_2] at c2
  unfold nb at c2
  try simp only at c2
  clear hO2 hO3 c1 hb3 hx3
  go_wp2_with fail
  refine c2.mono ?_
  rintro e w4 ⟨rfl, hO4, _, _⟩
  have c3 := one_prog hO4 (fun y h => pwhole_any p y [d2] nb 4 ⟨#[]⟩ w4 h inv_d2 (by decide) (by decide) (hO4.tabs HT.out))
  rw [al_3] at c3
  unfold nb at c3
  try simp only at c3
  clear hO4 c2 hW3
  go_wp2_with fail
  refine c3.mono ?_
  rintro e w5 ⟨rfl, hO5, _, _⟩
  have c4 := one_prog hO5 (fun y h => popen_any p y [d2] d3 w5 h inv_d2 (by decide) (by decide) (hO5.tabs HT.out))
  rw [al_4] at c4
  unfold d3 nb at c4
  try simp only at c4
  clear hO5 c3
  go_wp2_with fail
  refine c4.mono ?_
  rintro e w6 ⟨rfl, hO6, _, _⟩
  obtain ⟨y, hP6, hY6, hB6⟩ := hO6
  have c5 := all_any p y [d2] w6 hP6 inv_d2
  have HP6 := Lib.hid hP6
  have HB6 := Lib.hid hB6
  clear hP6 hB6 hY6 c4
  go_wp2_with fail
  refine c5.mono ?_
  rintro e w7 ⟨⟨v, rfl, hv⟩, hb7⟩
  obtain ⟨a, cap, rfl, hcap, hcc⟩ := hv
  obtain ⟨g, off, rfl, _, _, hat⟩ := hcc.resolve_left (fun h => by cases h)
  obtain ⟨x0, x1, x2⟩ := doc_at 0 hat (by simp)
  rw [show off + 0 * 3 = off by omega] at x0 x1 x2
  have c6 := size_any p y [d2] w7 (HP6.out.later hb7) inv_d2
  rw [al_5] at c6
  have heq := fun W => eql_doc d2 d2 W
  rw [docB_iff.2 rfl] at heq
  unfold d2 nb at heq x0 x1 x2
  simp only [List.getElem_cons_zero] at heq x0 x1 x2
  have HB7 := Lib.hid (HB6.out.trans (hb7.mono HB6.out.size))
  clear c5 hb7 hat hcc
  go_wp2_with fail
  refine c6.mono ?_
  rintro e w8 ⟨rfl, hb8⟩
  have HB8 := Lib.hid (HB7.out.trans (hb8.mono HB7.out.size))
  clear hb8 c6
  go_wp2_with fail
  go_ret
  exact ⟨rfl, HB8.out⟩
end Go.Proofs.YtccmicmlkgkheaaDoor.D
