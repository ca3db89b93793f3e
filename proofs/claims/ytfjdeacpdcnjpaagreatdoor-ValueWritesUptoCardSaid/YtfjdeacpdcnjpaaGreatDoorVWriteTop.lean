/- The contract of Write. -/
import Derived.Test.YtfjdeacpdcnjpaaGreatDoorVWriteV
namespace Go.Proofs.YtfjdeacpdcnjpaaGreatDoor.V
open Go.RowKit
open Go.Lib

theorem CellsAt.lt {W : World} {g off : Nat} {xs : List Value} (h : CellsAt W g off xs) (hx : xs ≠ []) : g < W.heap.size := by
  cases xs with
  | nil => exact absurd rfl hx
  | cons x r => exact lt_of_cell (h 0 x rfl)
theorem KeysIn.within {W : World} {R : Nat → Prop} {ks : List (List UInt8)} {kv : Value} (h : KeysIn W R ks kv) : KeysIn W (fun g => R g ∧ g < W.heap.size) ks kv := by
  obtain ⟨a, cap, h1, h2⟩ := h
  refine ⟨a, cap, h1, ?_⟩
  rcases h2 with h2 | ⟨g, off, h3, h4, h5⟩
  · exact .inl h2
  · by_cases hk : ks = []
    · exact .inl hk
    · exact .inr ⟨g, off, h3, ⟨h4, h5.lt (by simpa using hk)⟩, h5⟩
mutual
theorem ValIn.within {W : World} {R : Nat → Prop} : ∀ (v : Val) (lv kv : Value), ValIn W R v lv kv → ValIn W (fun g => R g ∧ g < W.heap.size) v lv kv
  | .mk so on n t l ks, lv, kv, h => by
    obtain ⟨⟨a, cap, h1, h2⟩, hk⟩ := h
    refine ⟨⟨a, cap, h1, ?_⟩, hk.within⟩
    rcases h2 with h2 | ⟨g, off, xs, h3, h4, h5, h6⟩
    · exact .inl h2
    · by_cases hl : l = []
      · exact .inl hl
      · refine .inr ⟨g, off, xs, h3, ⟨h4, h5.lt (fun hx => hl ?_)⟩, h5, ListIn.within l xs h6⟩
        have := h6.length
        rw [hx] at this
        simp at this
        exact List.eq_nil_of_length_eq_zero (by omega)
theorem ListIn.within {W : World} {R : Nat → Prop} : ∀ (l : List Val) (xs : List Value), ListIn W R l xs → ListIn W (fun g => R g ∧ g < W.heap.size) l xs
  | [], xs, h => h
  | v :: r, xs, h => by
    obtain ⟨lv, kv, rest, h1, h2, h3⟩ := h
    exact ⟨lv, kv, rest, h1, ValIn.within v lv kv h2, ListIn.within r rest h3⟩
end

/-- What Write answers. -/
def WritesTop (v : Val) (w : World) (e : Ending) (w' : World) : Prop :=
  Below w.heap.size w w' ∧ if rightTop v = true then e = .returned (.tuple #[.string ⟨(write v).toArray⟩, .int .i64 0]) else e = .returned (.tuple #[.string ⟨#[]⟩, .int .i64 21])

set_option maxHeartbeats 2000000 in
theorem write_top (so : Int) (on : Bool) (n : Int) (t : List UInt8) (l : List Val) (ks : List (List UInt8)) (lv kv : Value) (R : Nat → Prop) (w : World) (hv : ValIn w R (.mk so on n t l ks) lv kv) (hw : wt (.mk so on n t l ks) ≤ 1099511627776) (hlen : (write (.mk so on n t l ks)).length ≤ 140737488355328) (hE : EnvW w) :
    Calls Tryz.prog 6 #[arg (.mk so on n t l ks) lv kv] w (WritesTop (.mk so on n t l ks) w) := by
  have cR := fun W (hb : Below w.heap.size w W) => right_top so on n t l ks lv kv R W (hv.later (fun b _ hlt => hb.block b hlt) (fun _ h => h) _ _ _) hw (hE.later hb)
  have cW := fun W (hb : Below w.heap.size w W) b hB hr => write_v (.mk so on n t l ks) lv kv (fun g => R g ∧ g < w.heap.size) w.heap.size b [] W (hv.within.later (fun b hb' hlt => hb.block b hlt) (fun _ h => h) _ _ _) (fun g h => h.2) ((Env.start hE).later hb) hB (by simpa using hlen) hw hr
  unfold WritesTop
  have hv' := hv
  obtain ⟨⟨a1, c1, rfl, _⟩, ⟨a2, c2, rfl, _⟩⟩ := hv'
  obtain ⟨tx, htx⟩ : ∃ x, write (.mk so on n t l ks) = x := ⟨_, rfl⟩
  obtain ⟨b1, hb1⟩ : ∃ x, rightTop (.mk so on n t l ks) = x := ⟨_, rfl⟩
  simp only [hb1] at cR ⊢
  simp only [htx, List.nil_append] at cW ⊢
  have hri : b1 = true → rightP (.mk so on n t l ks) = true := by
    intro h; rw [h] at hb1; simp only [rightTop, Bool.and_eq_true] at hb1; exact hb1.2
  simp only [arg, six', six, strCell] at cR cW ⊢
  have HW := Lib.hid cW
  have HRI := Lib.hid hri
  clear hv hw hlen hE cW htx hb1 hri
  go_enter Tryz.func6, Tryz.ntmps6
  go_wp2_with fail
  refine (cR _ ((Below.refl _ _).alloc (Nat.le_refl _) _)).mono ?_
  rintro e w1 ⟨rfl, hb1⟩
  have HB1 := Lib.hid (((Below.refl w.heap.size w).alloc (Nat.le_refl _) _).trans (hb1.mono (by simp)))
  have hblk := (hb1.block w.heap.size (by simp)).trans (heap_alloc_new w _)
  have hz1 := hb1.size
  simp at hz1
  obtain ⟨⟨k0, k1, k2, k3, k4, k5⟩, kf⟩ := cells_six ((Below.heap_alloc w1 (.cells #[.pointer none, .slice none 0 0] 52) w.heap.size (by omega)).trans hblk)
  have hBd : Bld w.heap.size w1.heap.size [] (w1.alloc (.cells #[.pointer none, .slice none 0 0] 52)) := .inl ⟨by omega, .slice none 0 0, heap_alloc_new _ _, World.ownsRowF_nil _ _ _ _, by simp [Value.ownBlock]⟩
  have HBD := Lib.hid hBd
  have HB2 := Lib.hid (HB1.out.alloc (by omega) (.cells #[.pointer none, .slice none 0 0] 52))
  clear hBd
  clear cR hb1 hblk
  cases b1 with
  | false =>
    go_wp2_with fail
    go_ret2
    exact ⟨HB1.out, by simp⟩
  | true =>
    have cQ := HW.out _ HB2.out w1.heap.size HBD.out (HRI.out rfl)
    go_wp2_with fail
    refine cQ.mono ?_
    rintro e w2 ⟨rfl, hB2, hf2⟩
    have hB3 := HB2.out.trans hf2.below
    have cS := Tryz.Builder_String_any_k w.heap.size w1.heap.size tx w2 hB2 hB3.size
    clear cQ hf2 hB2
    go_wp2_with fail
    refine cS.mono ?_
    rintro e w3 ⟨rfl, _, hb4, _⟩
    have HB4 := Lib.hid (hB3.trans hb4)
    clear cS hb4 hB3
    go_wp2_with fail
    go_ret2
    exact ⟨HB4.out, by simp⟩
end Go.Proofs.YtfjdeacpdcnjpaaGreatDoor.V
