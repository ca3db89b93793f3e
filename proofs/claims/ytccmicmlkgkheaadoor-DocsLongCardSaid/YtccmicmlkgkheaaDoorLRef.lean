/- The contracts of the document's own Offset and Place of layer 5. -/
import Derived.Test.YtccmicmlkgkheaaDoorLSplit
import Derived.Test.YtccmicmlkgkheaaDoorRefA
import Derived.Deep.RegionHeld3
import Derived.Deep.RegionWith
import Derived.BigRegion
import Derived.IntWalk
namespace Go.Proofs.YtccmicmlkgkheaaDoor.L
open Go.RowKit
open Go.Lib hiding intOf
open Go.Proofs.YtccmicmlkgkheaaDoor.U

theorem nx_next (s : ByteArray) (i : Nat) (h : i < (ends s).length) : nx (ends s) (i + 1) = nx (ends s) i + (ln s i).size + 1 := by
  obtain ⟨k1, k2⟩ := nx_le_en (rise_ends s) i (by omega)
  rw [ln_size s i (by omega), nx_succ]
  rw [en_at _ _ _ h] at k1 ⊢
  omega

set_option maxHeartbeats 2000000 in
set_option maxRecDepth 100000 in
theorem refOff_any (s : ByteArray) (l u : Int) (w : World) (hs : s.size ≤ 1000000) :
    Calls Tryd.prog 50 #[.string s, .agg #[.int .i64 l, .int .i64 u]] w (AnswersTwo (offL s l u) w) := by
  obtain ⟨W, hW⟩ : ∃ W, w.alloc (.cells #[.int .i64 l, .int .i64 u] 54) = W := ⟨_, rfl⟩
  have hbw : Below w.heap.size w W := by rw [← hW]; exact (Below.refl _ _).alloc (Nat.le_refl _) _
  have HBX := Lib.hid (show W.heap[w.heap.size]? = some (.cells #[.int .i64 l, .int .i64 u] 54 (0, 0)) by rw [← hW]; exact heap_alloc_new _ _)
  have HBW := Lib.hid hbw
  have cS := split_any s W hs
  have hl := ends_le s
  clear hbw
  by_cases hin : 0 ≤ l ∧ l ≤ ((ends s).length : Int)
  · obtain ⟨m, rfl⟩ : ∃ m : Nat, l = m := ⟨l.toNat, by omega⟩
    have hm : m ≤ (ends s).length := by omega
    have hO : offL s m u = if (offB (ln s m) u).2 = 0 then ((nx (ends s) m : Int) + (offB (ln s m) u).1, 0) else (0, 51) := by unfold offL; rw [if_pos hin]; simp
    have hle := ln_le s m hm
    have cO := fun W' => ref_offset (ln s m) u W' (by omega)
    have hpb : (offB (ln s m) u).2 = 0 → 0 ≤ (offB (ln s m) u).1 ∧ (offB (ln s m) u).1 ≤ 1000000 := fun h => by
      have := offB_there (ln s m) u (offB (ln s m) u).1 (by rw [← h])
      omega
    obtain ⟨r, hr⟩ : ∃ r : Int × Int, offL s m u = r := ⟨_, rfl⟩
    have hpr : ((offB (ln s m) u).2 = 0 ∧ r = ((nx (ends s) m : Int) + (offB (ln s m) u).1, 0) ∧ 0 ≤ (offB (ln s m) u).1 ∧ (offB (ln s m) u).1 ≤ 1000000) ∨ (((offB (ln s m) u).2 == 0) = false ∧ r = (0, 51)) := by
      rw [← hr, hO]
      by_cases h0 : (offB (ln s m) u).2 = 0
      · rw [if_pos h0]; exact .inl ⟨h0, rfl, hpb h0⟩
      · rw [if_neg h0]; exact .inr ⟨by simpa using h0, rfl⟩
    rw [hr]
    clear hO hr hin hpb
    generalize offB (ln s m) u = p at cO hpr
    obtain ⟨pa, pc⟩ := p
    simp only at hpr
    have hn1 : ¬ ((m : Int) < 0) := by omega
    have CO := Lib.hid cO
    clear cO
    have hnxm : nx (ends s) m ≤ 1000000 := by omega
    rcases hpr with ⟨rfl, rfl, hp1, hp2⟩ | ⟨hpc, rfl⟩
    all_goals
      go_enter Tryd.func50, Tryd.ntmps50
      go_wp2_with fail
      refine cS.mono ?_
      rintro e w1 ⟨g, cap, rfl, hb1, hg1, hc1⟩
      have HB1 := Lib.hid hb1
      have HC1 := Lib.hid hc1
      obtain ⟨p0, p1⟩ := bx_cells HBX.out hb1
      have hlen : m < (ends s).length + 1 := by omega
      have hcm := hc1 m hm
      obtain ⟨L, hL⟩ : ∃ L, (ends s).length = L := ⟨_, rfl⟩
      have HL := Lib.hid hL
      rw [hL] at hlen ⊢
      clear hb1 hc1 cS hW hL
      go_upto_region 4 with fail
      go_wp2_with fail
      go_loop [7, 8] (fun nv iv => ∃ i : Nat, iv = .int .i64 i ∧ i ≤ m ∧ nv = .int .i64 (nx (ends s) i)) (fun _ iv => m - (intOf iv).toNat)
      case atStart => exact ⟨0, rfl, Nat.zero_le _, rfl⟩
      case round =>
        obtain ⟨i, rfl, him, rfl⟩ := hrel
        by_cases hlt : i < m
        · have hnn := nx_next s i (by have := HL.out; omega)
          have hci := HC1.out i (by have := HL.out; omega)
          have hbi := ln_le s i (by have := HL.out; omega)
          have HN : Hid ((nx (ends s) (i + 1) : Int) = nx (ends s) i + (ln s i).size + 1) := Lib.hid (by rw [hnn]; omega)
          have hilen : i < L + 1 := by omega
          clear hnn hcm
          generalize (ln s i) = t at hci hbi HN
          go_wp2_with fail
          go_round
          case rel => exact ⟨i + 1, by go_num, by omega, by rw [HN.out]⟩
          case measure => simp [intOf]; omega
        · obtain rfl : i = m := by omega
          have hS0 : w1.drew.cell? ⟨w.heap.size, 0, none⟩ = some (.int .i64 i) ∧ w1.drew.cell? ⟨w.heap.size, 1, none⟩ = some (.int .i64 u) ∧ w1.drew.cell? ⟨g, i, none⟩ = some (.string (ln s i)) ∧ Below w1.heap.size w1 w1.drew := ⟨p0, p1, hcm, (Below.refl _ _).drew⟩
          have hqz : w.heap.size < w1.heap.size := by
            have h1 := HB1.out.size
            have h2 : w.heap.size < W.heap.size := (Array.getElem?_eq_some_iff.1 HBX.out).1
            omega
          have cO2 : ∀ X, (X.cell? ⟨w.heap.size, 0, none⟩ = some (.int .i64 i) ∧ X.cell? ⟨w.heap.size, 1, none⟩ = some (.int .i64 u) ∧ X.cell? ⟨g, i, none⟩ = some (.string (ln s i)) ∧ Below w1.heap.size w1 X) → Calls Tryd.prog 67 #[.string (ln s i), .int .i64 u] X fun e w' => e = .returned (.tuple #[.int .i64 pa, .int .i64 _]) ∧ (w'.cell? ⟨w.heap.size, 0, none⟩ = some (.int .i64 i) ∧ w'.cell? ⟨w.heap.size, 1, none⟩ = some (.int .i64 u) ∧ w'.cell? ⟨g, i, none⟩ = some (.string (ln s i)) ∧ Below w1.heap.size w1 w') := fun X hS =>
            (CO.out X).mono fun e w' ⟨h1, h2⟩ => ⟨h1, (h2.cell (p := ⟨w.heap.size, 0, none⟩) (by have := hS.2.2.2.size; simp only; omega)).trans hS.1, (h2.cell (p := ⟨w.heap.size, 1, none⟩) (by have := hS.2.2.2.size; simp only; omega)).trans hS.2.1, (h2.cell (p := ⟨g, i, none⟩) (by have := hS.2.2.2.size; simp only; omega)).trans hS.2.2.1, hS.2.2.2.trans (h2.mono hS.2.2.2.size)⟩
          clear CO
          go_upto_region 9 with fail
          go_region_held3 (fun X => X.cell? ⟨w.heap.size, 0, none⟩ = some (.int .i64 i) ∧ X.cell? ⟨w.heap.size, 1, none⟩ = some (.int .i64 u) ∧ X.cell? ⟨g, i, none⟩ = some (.string (ln s i)) ∧ Below w1.heap.size w1 X) (with_reducible (repeat (first | assumption))) (first | (go_at_call 67; (with_reducible refine (cO2 _ ?_).mono ?_); assumption; rintro e w3 ⟨rfl, hS3⟩))
          have HB3 := Lib.hid hS3.2.2.2
          clear hS3 cO2 hS0 p0 p1 hcm
          go_wp2_with fail
          go_ret2
          exact answersTwo rfl (next HBW.out (next HB1.out HB3.out))
  · have hO : offL s l u = (0, 51) := by unfold offL; rw [if_neg hin]
    rw [hO]
    clear hO
    by_cases h0 : l < 0
    · have hlen := hl
      go_enter Tryd.func50, Tryd.ntmps50
      go_wp2_with fail
      refine cS.mono ?_
      rintro e w1 ⟨g, cap, rfl, hb1, hg1, hc1⟩
      have HB1 := Lib.hid hb1
      obtain ⟨p0, p1⟩ := bx_cells HBX.out hb1
      generalize (ends s).length = L at hlen ⊢
      clear hb1 hc1 cS hW hin
      go_wp2_with fail
      go_ret2
      exact answersTwo rfl (next HBW.out HB1.out)
    · have hlen : ((ends s).length : Int) + 1 ≤ l := by omega
      go_enter Tryd.func50, Tryd.ntmps50
      go_wp2_with fail
      refine cS.mono ?_
      rintro e w1 ⟨g, cap, rfl, hb1, hg1, hc1⟩
      have HB1 := Lib.hid hb1
      obtain ⟨p0, p1⟩ := bx_cells HBX.out hb1
      generalize (ends s).length = L at hlen ⊢
      clear hb1 hc1 cS hW hin
      go_wp2_with fail
      go_ret2
      exact answersTwo rfl (next HBW.out HB1.out)

/-! ### Place -/
theorem uni_far (t : ByteArray) (a : Int) (h : ¬ (0 ≤ a ∧ a ≤ t.size)) : (uniB t a).2 ≠ 0 := by
  intro h0
  rcases uniB_or t a with ⟨u, _, _, h3, h4⟩ | h2 | h2
  · exact h ⟨h3, h4⟩
  · rw [h2] at h0; simp at h0
  · rw [h2] at h0; simp at h0
theorem placeL_far (s : ByteArray) (a : Int) (h : ¬ (0 ≤ a ∧ a ≤ s.size)) : placeL s a = (0, 0, 51) := by
  rcases place_or s a with ⟨n, u, h1, _, _, _, _, h6, h7⟩ | h1
  · exact absurd ⟨h6, h7⟩ h
  · exact h1
/-- What the variable holds after so many lines, where the offset is below 0: it goes round. -/
def Round (a : Int) (k : Nat) (x : Int) : Prop := (x = a - k ∨ x = a - k + 18446744073709551616) ∧ -9223372036854775808 ≤ x ∧ x < 9223372036854775808
theorem round_step {a x : Int} {k z : Nat} (h : Round a k x) (ha : a < 0) (ha2 : -9223372036854775808 ≤ a) (hk : k + z + 1 ≤ 2000000) : Round a (k + z + 1) (wrap64 (wrap64 (x - z) - 1)) := by
  obtain ⟨h1, h2, h3⟩ := h
  have e : ∀ y : Int, -9223372036854775808 - 9223372036854775808 ≤ y → y < 9223372036854775808 → (wrap64 y = y ∧ -9223372036854775808 ≤ y) ∨ (wrap64 y = y + 18446744073709551616 ∧ y < -9223372036854775808) := by
    intro y hy1 hy2
    by_cases hy : -9223372036854775808 ≤ y
    · exact .inl ⟨by unfold wrap64; omega, hy⟩
    · exact .inr ⟨by unfold wrap64; omega, by omega⟩
  rcases e (x - z) (by omega) (by omega) with ⟨e1, e2⟩ | ⟨e1, e2⟩
  · rw [e1]
    rcases e (x - z - 1) (by omega) (by omega) with ⟨e3, e4⟩ | ⟨e3, e4⟩
    · rw [e3]; exact ⟨by omega, by omega, by omega⟩
    · rw [e3]; exact ⟨by omega, by omega, by omega⟩
  · rw [e1]
    rcases e (x - z + 18446744073709551616 - 1) (by omega) (by omega) with ⟨e3, e4⟩ | ⟨e3, e4⟩
    · rw [e3]; exact ⟨by omega, by omega, by omega⟩
    · rw [e3]; exact ⟨by omega, by omega, by omega⟩
end Go.Proofs.YtccmicmlkgkheaaDoor.L
