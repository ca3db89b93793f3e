/- The contracts of an index's Offset. -/
import Derived.Test.YtccmicmlkgkheaaDoorLMeth
namespace Go.Proofs.YtccmicmlkgkheaaDoor.L
open Go.RowKit
open Go.Lib hiding intOf
open Go.Proofs.YtccmicmlkgkheaaDoor.U

theorem two_cells {w : World} {q : Nat} {x y : Value} {t : TypeId} (h : w.heap[q]? = some (.cells #[x, y] t (0, 0))) : w.cell? ⟨q, 0, none⟩ = some x ∧ w.cell? ⟨q, 1, none⟩ = some y := by
  unfold World.cell?; rw [h]; exact ⟨rfl, rfl⟩
theorem idxOff_nil (l u : Int) (w : World) : Calls Tryd.prog 48 #[.pointer none, .agg #[.int .i64 l, .int .i64 u]] w (AnswersTwo (0, 1) w) := by
  obtain ⟨W, hW⟩ : ∃ W, w.alloc (.cells #[.int .i64 l, .int .i64 u] 54) = W := ⟨_, rfl⟩
  have hbw : Below w.heap.size w W := by rw [← hW]; exact (Below.refl _ _).alloc (Nat.le_refl _) _
  have cL := line_nil l W
  obtain ⟨p0, p1⟩ := two_cells (show W.heap[w.heap.size]? = some (.cells #[.int .i64 l, .int .i64 u] 54 (0, 0)) by rw [← hW]; exact heap_alloc_new _ _)
  go_enter Tryd.func48, Tryd.ntmps48
  go_wp2_with fail
  refine cL.mono ?_
  rintro e w2 ⟨rfl, hb⟩
  go_wp2_with fail
  go_ret2
  exact answersTwo rfl (hbw.trans (hb.mono hbw.size))
set_option maxRecDepth 20000 in
theorem idxOff_any (b : Nat) (s : ByteArray) (v : Value) (l u : Int) (w : World) (h : Idx b s v w) (hs : s.size ≤ 1099511627776) (hT : Tabs w) :
    Calls Tryd.prog 48 #[.pointer (some ⟨b, 0, none⟩), .agg #[.int .i64 l, .int .i64 u]] w (AnswersTwo (offL s l u) w) := by
  obtain ⟨W, hW⟩ : ∃ W, w.alloc (.cells #[.int .i64 l, .int .i64 u] 54) = W := ⟨_, rfl⟩
  have hbw : Below w.heap.size w W := by rw [← hW]; exact (Below.refl _ _).alloc (Nat.le_refl _) _
  have hbx : W.heap[w.heap.size]? = some (.cells #[.int .i64 l, .int .i64 u] 54 (0, 0)) := by rw [← hW]; exact heap_alloc_new _ _
  have hzW : w.heap.size < W.heap.size := by rw [← hW, World.size_alloc]; omega
  have hi := h.later hbw
  have cL := line_any b s v l W hi hs
  have HBW := Lib.hid hbw
  have HBX := Lib.hid hbx
  have HI := Lib.hid hi
  have HT := Lib.hid (show Tabs W from Utf8Tabs_below hT hbw)
  obtain ⟨p0, p1⟩ := two_cells hbx
  clear h hbw hbx hi hT
  by_cases hl : 0 ≤ l ∧ l ≤ ((ends s).length : Int)
  · obtain ⟨m, rfl⟩ : ∃ m : Nat, l = m := ⟨l.toNat, by omega⟩
    have hm : m ≤ (ends s).length := by omega
    have hL : lineL s m = (ln s m, 0) := by unfold lineL; rw [if_pos hl]; simp
    have hO : offL s m u = if (offB (ln s m) u).2 = 0 then ((nx (ends s) m : Int) + (offB (ln s m) u).1, 0) else (0, 51) := by unfold offL; rw [if_pos hl]; simp
    have hle := ln_le s m hm
    have hlz : (ln s m).size ≤ 1099511627776 := by omega
    have cO := fun W' (hb : Below W.heap.size W W') => offset_any (ln s m) u W' hlz (Utf8Tabs_below HT.out hb)
    have cB := fun W' (hb : Below W.heap.size W W') => begin_any b s v m W' (HI.out.later hb) hs hm
    rw [hL] at cL
    rw [hO]
    clear hL hO hl hm
    generalize nx (ends s) m = x at cB hle ⊢
    have hob := offB_or (ln s m) u
    generalize offB (ln s m) u = p at cO hob ⊢
    generalize ln s m = t at cL cO hle hlz hob
    have CO := Lib.hid cO
    have CB := Lib.hid cB
    clear cO cB
    rcases hob with ⟨a, rfl, ha⟩ | rfl | rfl
    · simp only [if_true]
      go_enter Tryd.func48, Tryd.ntmps48
      go_wp2_with fail
      refine cL.mono ?_
      rintro e w2 ⟨rfl, hb⟩
      obtain ⟨q0, q1⟩ := two_cells ((hb.block w.heap.size hzW).trans HBX.out)
      have HB2 := Lib.hid hb
      clear hb cL hW p0 p1
      go_wp2_with fail
      refine (CO.out w2 HB2.out).mono ?_
      rintro e w3 ⟨rfl, hb3⟩
      have hb3' := HB2.out.trans (hb3.mono HB2.out.size)
      obtain ⟨r0, r1⟩ := two_cells ((hb3'.block w.heap.size hzW).trans HBX.out)
      have HB3 := Lib.hid hb3'
      clear hb3 hb3' q0 q1
      go_wp2_with fail
      refine (CB.out w3 HB3.out).mono ?_
      rintro e w4 ⟨rfl, rfl⟩
      go_wp2_with fail
      go_ret2
      exact answersTwo rfl (HBW.out.trans (HB3.out.mono HBW.out.size))
    all_goals
      rw [if_neg (by simp)]
      go_enter Tryd.func48, Tryd.ntmps48
      go_wp2_with fail
      refine cL.mono ?_
      rintro e w2 ⟨rfl, hb⟩
      obtain ⟨q0, q1⟩ := two_cells ((hb.block w.heap.size hzW).trans HBX.out)
      have HB2 := Lib.hid hb
      clear hb cL hW p0 p1
      go_wp2_with fail
      refine (CO.out w2 HB2.out).mono ?_
      rintro e w3 ⟨rfl, hb3⟩
      have HB3 := Lib.hid (HB2.out.trans (hb3.mono HB2.out.size))
      clear hb3
      go_wp2_with fail
      go_ret2
      exact answersTwo rfl (HBW.out.trans (HB3.out.mono HBW.out.size))
  · have hL : lineL s l = (⟨#[]⟩, 51) := by unfold lineL; rw [if_neg hl]
    have hO : offL s l u = (0, 51) := by unfold offL; rw [if_neg hl]
    rw [hL] at cL
    rw [hO]
    clear hL hO hl
    go_enter Tryd.func48, Tryd.ntmps48
    go_wp2_with fail
    refine cL.mono ?_
    rintro e w2 ⟨rfl, hb⟩
    go_wp2_with fail
    go_ret2
    exact answersTwo rfl (HBW.out.trans (hb.mono HBW.out.size))

end Go.Proofs.YtccmicmlkgkheaaDoor.L
