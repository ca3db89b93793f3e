/- The contract of alive; the law FrameNil. -/
import Derived.Test.YtojdginbaaoidaaDoorFEnc
namespace Go.Proofs.YtojdginbaaoidaaDoor.F
open Go.RowKit
open Go.Lib

def s0 : List UInt8 := [120, 67, 111, 110, 116, 101, 110, 116, 45, 76, 101, 110, 103, 116, 104, 58, 32, 48, 51, 13, 10, 67, 111, 110, 116, 101, 110, 116, 45, 76, 101, 110, 103, 116, 104, 58, 32, 50, 13, 10, 13, 10, 104, 105, 67, 111, 110]
theorem go0 : goL s0 = ⟨[[104, 105]], 21, [67, 111, 110]⟩ := by kernel_rfl
def e0 : List UInt8 := [67, 111, 110, 116, 101, 110, 116, 45, 76, 101, 110, 103, 116, 104, 58, 32, 48, 13, 10, 13, 10, 67, 111, 110, 116, 101, 110, 116, 45, 76, 101, 110, 103, 116, 104, 58, 32, 50, 13, 10, 13, 10, 97, 98]
theorem enc0 : encL [[], [97, 98]] = e0 := by kernel_rfl
theorem ok0 : okL [[], [97, 98]] = true := by kernel_rfl

theorem feeds_below {d : Nat} {v : Value} {L : List UInt8} {lost B : Nat} {w w' : World} {e : Ending} (h : Feeds d v L lost w e w') (hB : B ≤ w.heap.size) (hd : B ≤ d) (hv : ∀ k, v.ownBlock = some k → B ≤ k) : Below B w w' := by
  obtain ⟨_, _, _, _, _, _, h1, h2, h3, h4, h5⟩ := h
  exact ⟨h1, h2, h3, h4, fun k hk => h5 k (by omega) (by omega) (fun e => by have := hv k e.symm; omega)⟩

set_option maxHeartbeats 2000000 in
theorem alive_any (w : World) (hE : EnvF w) : Calls Tryd.prog 9 #[] w fun e w' => e = .returned (.bool true) ∧ Below w.heap.size w w' := by
  have cN := new_any w
  have HE := Lib.hid hE
  clear hE
  go_enter Tryd.func9, Tryd.ntmps9
  go_wp2_with fail
  refine cN.mono ?_
  rintro e w1 ⟨rfl, hb1, hw1⟩
  have cF := feed_any w.heap.size w.heap.size (.slice none 0 0) [] ⟨s0.toArray⟩ 0 w1 hb1 (World.ownsRow_nil _ _ _ _) ((Env.start HE.out).later hw1) (Nat.le_refl _) (by decide) (by decide)
  have HW1 := Lib.hid hw1
  have hz1 := hw1.size
  clear cN hw1 hb1
  go_wp2_with fail
  refine cF.mono ?_
  rintro e w2 hf
  have hw2 := feeds_below hf hz1 (Nat.le_refl _) (by intro k hk; cases hk)
  obtain ⟨x, v', rfl, hx, hB2, hR2, _, _, _, hz2, _⟩ := hf
  have hgo : goL ([] ++ (⟨s0.toArray⟩ : ByteArray).data.toList) = ⟨[[104, 105]], 21, [67, 111, 110]⟩ := go0
  rw [hgo] at hx hB2 hR2
  obtain ⟨xa, xc, rfl⟩ := owns_len hx
  obtain ⟨va, vc, rfl⟩ := owns_len hR2
  have ht := owns_texts (l := [[104, 105]]) hx
  obtain ⟨g, off, rfl, hc⟩ := ht.resolve_left (by simp)
  have hc0 := hc 0 (by simp)
  have hgl := lt_of_cell hc0
  have HW2 := Lib.hid (HW1.out.trans hw2)
  have HB2 := Lib.hid hB2
  have hblt := hB2.lt
  have HC0 := Lib.hid hc0
  have cE : Calls Tryd.prog 10 #[.slice (some ⟨w2.heap.size, 0, none⟩) 2 2] (w2.alloc (.cells #[.string ⟨#[]⟩, .string ⟨#[97, 98]⟩] 9)) (Encodes [[], [97, 98]] (w2.alloc (.cells #[.string ⟨#[]⟩, .string ⟨#[97, 98]⟩] 9))) := by
    refine encode_any (some ⟨w2.heap.size, 0, none⟩) 2 [[], [97, 98]] _ (.inr ⟨_, 0, rfl, fun j hj => ?_⟩) (by rw [enc0]; decide) (by decide) (HE.out.later (HW2.out.alloc HW2.out.size _))
    have hj2 : j < 2 := hj
    have : j = 0 ∨ j = 1 := by omega
    rcases this with rfl | rfl
    · unfold World.cell?; simp only [heap_alloc_new]; rfl
    · unfold World.cell?; simp only [heap_alloc_new]; rfl
  unfold Encodes at cE
  rw [enc0, ok0] at cE
  simp only [if_true] at cE
  rw [show e0.toArray = #[67, 111, 110, 116, 101, 110, 116, 45, 76, 101, 110, 103, 116, 104, 58, 32, 48, 13, 10, 13, 10, 67, 111, 110, 116, 101, 110, 116, 45, 76, 101, 110, 103, 116, 104, 58, 32, 50, 13, 10, 13, 10, 97, 98] from rfl] at cE
  clear cF hw2 hc0 hc hx hB2 hR2 hgo ht
  go_wp2_with fail
  refine cE.mono ?_
  rintro e w3 ⟨rfl, hw3⟩
  have hw23 : Below w2.heap.size w2 w3 := ((Below.refl w2.heap.size w2).alloc (Nat.le_refl _) _).trans (hw3.mono (by simp))
  have hc3 : w3.cell? ⟨g, off, none⟩ = some (.string ⟨#[104, 105]⟩) := (hw23.cell (p := ⟨g, off + 0, none⟩) hgl).trans HC0.out
  have hB3 := HB2.out.below hw23
  have cL : Calls Tryd.prog 16 #[.pointer (some ⟨w.heap.size, 0, none⟩)] w3 fun e w' => e = .returned (.int .i64 21) ∧ w' = w3 := lost_any _ _ _ w3 hB3
  have cM : Calls Tryd.prog 17 #[.pointer (some ⟨w.heap.size, 0, none⟩)] w3 fun e w' => e = .returned (.int .i64 3) ∧ w' = w3 := left_any _ _ _ _ _ w3 hB3
  have HW3 := Lib.hid (HW2.out.trans (hw23.mono HW2.out.size))
  clear cE hw3 hw23 hB3
  go_wp2_with (first | (go_at_call 16; refine cL.mono ?_; rintro e w4 ⟨rfl, rfl⟩) | (go_at_call 17; refine cM.mono ?_; rintro e w4 ⟨rfl, rfl⟩))
  go_ret
  exact ⟨rfl, HW3.out⟩

set_option maxHeartbeats 1000000 in
theorem nil_walk (s : ByteArray) (w : World) (hE : EnvF w) : Calls Tryd.prog 7 #[.string s] w fun e w' => e = .returned (.bool true) ∧ Below w.heap.size w w' := by
  have cA := alive_any w hE
  clear hE
  go_enter Tryd.func7, Tryd.ntmps7
  go_wp2_with fail
  refine cA.mono ?_
  rintro e w1 ⟨rfl, hw1⟩
  clear cA
  go_wp2_with (first | (go_at_call 16; refine (lost_nil _).mono ?_; rintro e w4 ⟨rfl, rfl⟩) | (go_at_call 17; refine (left_nil _).mono ?_; rintro e w4 ⟨rfl, rfl⟩) | (go_at_call 13; refine (feed_nil _ _).mono ?_; rintro e w4 ⟨rfl, rfl⟩))
  go_ret
  exact ⟨rfl, hw1⟩
end Go.Proofs.YtojdginbaaoidaaDoor.F
