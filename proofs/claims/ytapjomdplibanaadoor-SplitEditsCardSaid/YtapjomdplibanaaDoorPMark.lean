/- The contract of the scanner's markLength. -/
import Derived.Test.YtapjomdplibanaaDoorPBlk
namespace Go.Proofs.YtapjomdplibanaaDoor.S
open Go.RowKit
open Go.Lib hiding intOf
open Go.Proofs.YtapjomdplibanaaDoor.U Go.Proofs.YtapjomdplibanaaDoor.L

theorem wid_next {t : ByteArray} {pos : Nat} (h : pos = 0 ∨ pos = wid t.toList) (hp : pos = 0) : pos + (Utf8.decode t pos).2 = wid t.toList := by
  subst hp
  rw [wid_is]; omega
set_option maxHeartbeats 4000000 in
set_option maxRecDepth 20000 in
theorem mark_loop (d : Nat) (s : ByteArray) (r : Bool) (i : Int) (v : Value) (w : World) (t : ByteArray) (hB : ScB d s r i v w) (ht : t.size ≤ 1099511627776) (h0 : 0 < t.size) (h2 : two t.toList = false) :
    Calls Tryd.prog 48 #[.pointer (some ⟨d, 0, none⟩), .string t] w fun e w' => e = .returned (.int .i64 (markLen r t.toList : Nat)) ∧ Below w.heap.size w w' := by
  have h1 := hB.c1
  have hm : markLen r t.toList = if r then wid t.toList else 1 := by unfold markLen; rw [if_neg (by rw [h2]; simp)]
  have h7 := two_min t h0 (m := (min 2 (t.size : Int)).toNat) (by split <;> omega) rfl
  rw [h2] at h7
  simp only [Bool.false_eq, Bool.or_eq_false_iff] at h7
  obtain ⟨⟨⟨⟨⟨⟨t1, t2⟩, t3⟩, t4⟩, t5⟩, t6⟩, t7⟩ := h7
  clear hB h2
  cases r
  · replace hm : markLen false t.toList = 1 := hm
    rw [hm]
    clear hm
    go_enter Tryd.func48, Tryd.ntmps48
    go_wp2_with fail
    go_ret
    exact ⟨rfl, Below.refl _ _⟩
  · replace hm : markLen true t.toList = wid t.toList := hm
    rw [hm]
    have hwb := wid_bounds (l := t.toList) (by intro e; have := tl_len t; rw [e] at this; simp at this; omega)
    rw [tl_len] at hwb
    obtain ⟨R, hR⟩ : ∃ R, wid t.toList = R := ⟨_, rfl⟩
    rw [hR] at hwb ⊢
    have HR : Hid ((Utf8.decode t 0).2 = R) := Lib.hid (by rw [← hR, wid_is])
    clear hm hR
    go_enter Tryd.func48, Tryd.ntmps48
    go_wp2_with fail
    clear t1 t2 t3 t4 t5 t6 t7
    go_loopw [] (fun w' => ∃ pos : Nat, w' = w.iter t pos ∧ (pos = 0 ∨ pos = R)) (fun w' => t.size - w'.iterPos w.heap.size)
    case atStart => exact ⟨0, rfl, .inl rfl⟩
    case round =>
      obtain ⟨pos, rfl, hp⟩ := hrel
      by_cases hlt : pos < t.size
      · have hnx : ∀ ty, (Instr.next (.pointer (some ⟨w.heap.size, 0, none⟩)) true ty).run Tryd.prog (w.iter t pos) = _ := fun ty => run_next_any w t pos ty hlt
        have hw1 := width_pos t pos hlt
        have hw2 := width_le t pos hlt
        by_cases hp0 : 0 < pos
        · go_wp2_with fail
          go_ret
          exact ⟨by rw [show pos = R by omega]; rfl, (Below.refl _ _).alloc (Nat.le_refl _) _⟩
        · have HN : Hid (pos + (Utf8.decode t pos).2 = R) := Lib.hid (by
            have h := HR.out
            have hp0 : pos = 0 := by omega
            rw [hp0]; omega)
          clear hp
          go_wp2_with fail
          go_roundw
          case rel => exact ⟨pos + (Utf8.decode t pos).2, rfl, .inr HN.out⟩
          case measure => simp; omega
      · have hnx : ∀ ty, (Instr.next (.pointer (some ⟨w.heap.size, 0, none⟩)) true ty).run Tryd.prog (w.iter t pos) = _ := fun ty => run_next_end w t pos ty hlt
        have hRz : R = t.size := by omega
        go_wp2_with fail
        go_ret
        exact ⟨by rw [hRz]; rfl, (Below.refl _ _).alloc (Nat.le_refl _) _⟩
set_option maxHeartbeats 4000000 in
set_option maxRecDepth 20000 in
theorem mark_two (d : Nat) (r : Bool) (w : World) (t : ByteArray) (h2 : two t.toList = true) :
    Calls Tryd.prog 48 #[.pointer (some ⟨d, 0, none⟩), .string t] w fun e w' => e = .returned (.int .i64 (markLen r t.toList : Nat)) ∧ Below w.heap.size w w' := by
  have hm : markLen r t.toList = 2 := by unfold markLen; rw [if_pos h2]
  have hz : 2 ≤ t.size := by have := two_len h2; rwa [tl_len] at this
  have h7 := two_min t (by omega) (m := (min 2 (t.size : Int)).toNat) (by split <;> omega) rfl
  rw [h2] at h7
  rw [hm]
  clear h2 hm
  cases e0 : ((t.extract 0 (min 2 (t.size : Int)).toNat).toList == [58, 61])
  rotate_left
  · clear h7
    go_enter Tryd.func48, Tryd.ntmps48
    go_wp2_with fail
    go_ret
    exact ⟨rfl, Below.refl _ _⟩
  rw [e0] at h7
  cases e1 : ((t.extract 0 (min 2 (t.size : Int)).toNat).toList == [61, 61])
  rotate_left
  · clear h7
    go_enter Tryd.func48, Tryd.ntmps48
    go_wp2_with fail
    go_ret
    exact ⟨rfl, Below.refl _ _⟩
  rw [e1] at h7
  cases e2 : ((t.extract 0 (min 2 (t.size : Int)).toNat).toList == [33, 61])
  rotate_left
  · clear h7
    go_enter Tryd.func48, Tryd.ntmps48
    go_wp2_with fail
    go_ret
    exact ⟨rfl, Below.refl _ _⟩
  rw [e2] at h7
  cases e3 : ((t.extract 0 (min 2 (t.size : Int)).toNat).toList == [60, 61])
  rotate_left
  · clear h7
    go_enter Tryd.func48, Tryd.ntmps48
    go_wp2_with fail
    go_ret
    exact ⟨rfl, Below.refl _ _⟩
  rw [e3] at h7
  cases e4 : ((t.extract 0 (min 2 (t.size : Int)).toNat).toList == [62, 61])
  rotate_left
  · clear h7
    go_enter Tryd.func48, Tryd.ntmps48
    go_wp2_with fail
    go_ret
    exact ⟨rfl, Below.refl _ _⟩
  rw [e4] at h7
  cases e5 : ((t.extract 0 (min 2 (t.size : Int)).toNat).toList == [38, 38])
  rotate_left
  · clear h7
    go_enter Tryd.func48, Tryd.ntmps48
    go_wp2_with fail
    go_ret
    exact ⟨rfl, Below.refl _ _⟩
  rw [e5] at h7
  cases e6 : ((t.extract 0 (min 2 (t.size : Int)).toNat).toList == [124, 124])
  rotate_left
  · clear h7
    go_enter Tryd.func48, Tryd.ntmps48
    go_wp2_with fail
    go_ret
    exact ⟨rfl, Below.refl _ _⟩
  rw [e6] at h7
  simp at h7
theorem mark_any (d : Nat) (s : ByteArray) (r : Bool) (i : Int) (v : Value) (w : World) (t : ByteArray) (hB : ScB d s r i v w) (ht : t.size ≤ 1099511627776) (h0 : 0 < t.size) :
    Calls Tryd.prog 48 #[.pointer (some ⟨d, 0, none⟩), .string t] w fun e w' => e = .returned (.int .i64 (markLen r t.toList : Nat)) ∧ Below w.heap.size w w' := by
  cases h2 : two t.toList
  · exact mark_loop d s r i v w t hB ht h0 h2
  · exact mark_two d r w t h2
end Go.Proofs.YtapjomdplibanaaDoor.S
